/- The parser with statements and nodes: what it has in common with the one without; how its lists grow. Plain functions. No Go here. -/
import Derived.Test.YtmfcpbhdggonfaaGreatDoorQarA
namespace RR
open Go Go.RowKit

theorem bind_proj {α β γ δ : Type} {o : Option α} {g : α → Option β} {h : β → δ} {p : α → γ} {k : γ → Option δ} (e : ∀ r, (g r).map h = k (p r)) : (o.bind g).map h = (o.map p).bind k := by
  cases o with
  | none => rfl
  | some a => exact e a
theorem map_map' {α β γ : Type} {o : Option α} {g : α → β} {h : β → γ} : (o.map g).map h = o.map (fun a => h (g a)) := by cases o <;> rfl
theorem map_bind' {α β γ : Type} {o : Option α} {g : α → β} {k : β → Option γ} : (o.map g).bind k = o.bind (fun a => k (g a)) := by cases o <;> rfl

theorem nots_proj (L : List Tk) : ∀ (f : Nat) (σ : QSt) (n : Nat), (notsQ L f σ n).map (fun r => r.1.p) = notsP L f σ.p := by
  intro f
  induction f with
  | zero => intro σ n; rfl
  | succ f ih =>
    intro σ n
    rw [notsQ, notsP]
    cases hs : σ.p.sees L ⟨#[33]⟩
    · rfl
    · rw [if_pos rfl, if_pos rfl, ih]
      unfold PSt.take
      rw [hs]; rfl
theorem addNots_p : ∀ (n : Nat) (σ : QSt) (w : Int), (addNots n σ w).1.p = σ.p := by
  intro n
  induction n with
  | zero => intro σ w; rfl
  | succ n ih => intro σ w; rw [addNots, ih]; rfl

theorem plain_proj (L : List Tk) {br : QSt → Option (QSt × Int)} {bp : PSt → Option PSt} (σ : QSt) (h : (br σ).map (fun r => r.1.p) = bp σ.p) : (plainQ L br σ).map (fun r => r.1.p) =
    if (σ.p.ahead L 0).t = ⟨#[40]⟩ then bp σ.p
      else if (σ.p.ahead L 0).t = ⟨#[116, 114, 117, 101]⟩ ∨ (σ.p.ahead L 0).t = ⟨#[102, 97, 108, 115, 101]⟩ ∨ (σ.p.ahead L 0).t = ⟨#[63]⟩ then some (σ.p.take L (σ.p.ahead L 0).t)
      else some (σ.p.takeName L 4) := by
  unfold plainQ
  by_cases h1 : (σ.p.ahead L 0).t = ⟨#[40]⟩
  · rw [if_pos h1, if_pos h1, h]
  · rw [if_neg h1, if_neg h1]
    by_cases h2 : (σ.p.ahead L 0).t = ⟨#[116, 114, 117, 101]⟩
    · rw [if_pos h2, if_pos (.inl h2), h2]; rfl
    · rw [if_neg h2]
      by_cases h3 : (σ.p.ahead L 0).t = ⟨#[102, 97, 108, 115, 101]⟩
      · rw [if_pos h3, if_pos (.inr (.inl h3)), h3]; rfl
      · rw [if_neg h3]
        by_cases h4 : (σ.p.ahead L 0).t = ⟨#[63]⟩
        · rw [if_pos h4, if_pos (.inr (.inr h4)), h4]; rfl
        · rw [if_neg h4, if_neg (fun e => e.elim h2 (fun e => e.elim h3 h4))]; rfl

theorem exprs_proj (L : List Tk) : ∀ f : Nat, (∀ σ, (exprQ L f σ).map (fun r => r.1.p) = exprP L f σ.p) ∧ (∀ σ w, (orQ L f σ w).map (fun r => r.1.p) = orP L f σ.p) ∧ (∀ σ, (termQ L f σ).map (fun r => r.1.p) = termP L f σ.p) ∧ (∀ σ w, (andQ L f σ w).map (fun r => r.1.p) = andP L f σ.p) ∧ (∀ σ, (factorQ L f σ).map (fun r => r.1.p) = factorP L f σ.p) ∧ (∀ σ, (bracketedQ L f σ).map (fun r => r.1.p) = bracketedP L f σ.p) := by
  intro f
  induction f with
  | zero => exact ⟨fun _ => rfl, fun _ _ => rfl, fun _ => rfl, fun _ _ => rfl, fun _ => rfl, fun _ => rfl⟩
  | succ f ih =>
    obtain ⟨i1, i2, i3, i4, i5, i6⟩ := ih
    refine ⟨fun σ => ?_, fun σ w => ?_, fun σ => ?_, fun σ w => ?_, fun σ => ?_, fun σ => ?_⟩
    · rw [exprQ_succ, exprP_succ, bind_proj (p := fun r => r.1.p) (k := orP L f) (fun r => i2 r.1 r.2), i3]
    · rw [orQ_succ, orP_succ]
      split
      · rw [bind_proj (p := fun r => r.1.p) (k := orP L f) (fun r => i2 _ _), i3]; rfl
      · rfl
    · rw [termQ_succ, termP_succ, bind_proj (p := fun r => r.1.p) (k := andP L f) (fun r => i4 r.1 r.2), i5]
    · rw [andQ_succ, andP_succ]
      split
      · rw [bind_proj (p := fun r => r.1.p) (k := andP L f) (fun r => i4 _ _), i5]; rfl
      · rfl
    · rw [factorQ_succ, factorP_succ, ← nots_proj L f σ 0]
      refine bind_proj (p := fun r : QSt × Nat => r.1.p) (fun r => ?_)
      rw [map_map', ← plain_proj L (br := bracketedQ L f) (bp := bracketedP L f) r.1 (i6 r.1)]
      congr 1
      funext q
      exact addNots_p _ _ _
    · rw [bracketedQ_succ, bracketedP_succ, map_map', show exprP L f (enterP L σ.p ⟨#[40]⟩) = _ from (i1 (σ.setp (enterP L σ.p ⟨#[40]⟩))).symm, map_map']; rfl

theorem expr_proj (L : List Tk) (f : Nat) (σ : QSt) : (exprQ L f σ).map (fun r => r.1.p) = exprP L f σ.p := (exprs_proj L f).1 σ
theorem expr_at (L : List Tk) (f : Nat) (σ : QSt) (q : PSt) : exprP L f q = (exprQ L f (σ.setp q)).map (fun r => r.1.p) := (expr_proj L f (σ.setp q)).symm
theorem value_proj (L : List Tk) (f : Nat) (σ : QSt) (v : List (Int × Int)) : (valueQ L f σ v).map (fun r => r.1.p) = exprP L f σ.p := by
  unfold valueQ; rw [map_map', ← expr_proj]
theorem value_len {L : List Tk} {f : Nat} {σ : QSt} {v : List (Int × Int)} {r : QSt × List (Int × Int)} (h : valueQ L f σ v = some r) : r.2.length = v.length + 1 := by
  unfold valueQ at h
  obtain ⟨a, _, rfl⟩ := Option.map_eq_some_iff.1 h
  simp
theorem values_proj (L : List Tk) : ∀ (f : Nat) (σ : QSt) (v : List (Int × Int)), (valuesQ L f σ v).map (fun r => (r.1.p, r.2.length)) = valuesP L f σ.p v.length := by
  intro f
  induction f with
  | zero => intro σ v; rfl
  | succ f ih =>
    intro σ v
    rw [valuesQ, valuesP]
    split
    · rw [expr_at L f σ σ.p.step]
      unfold valueQ
      rw [map_bind', map_bind']
      cases exprQ L f (σ.setp σ.p.step) with
      | none => rfl
      | some a =>
        show (valuesQ L f a.1 (v ++ [_])).map _ = valuesP L f a.1.p (v.length + 1)
        rw [ih, List.length_append]; rfl
    · rfl
theorem cond_proj (L : List Tk) (f : Nat) (σ : QSt) (v : List (Int × Int)) : (condQ L f σ v).map (fun r => r.1.p) = bracketedP L f σ.p := by
  cases f with
  | zero => rfl
  | succ f =>
    rw [condQ, bracketedP_succ, map_map', expr_at L f σ (enterP L σ.p ⟨#[40]⟩)]
    unfold valueQ
    rw [map_map', map_map']; rfl
theorem call_proj (L : List Tk) (f : Nat) (σ : QSt) (s : Stm) (hs : s.vals = []) : (callQ L f σ s).map (fun r => r.1.p) = callP L f σ.p := by
  unfold callQ callP
  rw [map_map', hs]
  split
  · rfl
  · rw [expr_at L f σ (enterP L (σ.p.takeName L 6) ⟨#[40]⟩)]
    unfold valueQ
    rw [map_bind', map_bind']
    cases exprQ L f (σ.setp (enterP L (σ.p.takeName L 6) ⟨#[40]⟩)) with
    | none => rfl
    | some a =>
      show (valuesQ L f a.1 ([] ++ [_])).map _ = (valuesP L f a.1.p 1).map _
      have := values_proj L f a.1 ([] ++ [(((σ.setp (enterP L (σ.p.takeName L 6) ⟨#[40]⟩)).nds.length : Int), a.2)])
      have e : (([] : List (Int × Int)) ++ [(((σ.setp (enterP L (σ.p.takeName L 6) ⟨#[40]⟩)).nds.length : Int), a.2)]).length = 1 := rfl
      rw [e] at this
      rw [← this, map_map']; rfl
theorem assigned_proj (L : List Tk) (f : Nat) (σ : QSt) (s : Stm) (hs : s.vals = []) : (assignedQ L f σ s).map (fun r => r.1.p) = assignedP L f σ.p := by
  unfold assignedQ assignedP
  split
  · exact call_proj L f σ s hs
  · rw [map_map', ← value_proj L f σ s.vals]
theorem aoc_proj (L : List Tk) (f : Nat) (σ : QSt) (s : Stm) (hs : s.vals = []) : (aocQ L f σ s).map (fun r => r.p) = assignOrCallP L f σ.p := by
  unfold aocQ assignOrCallP
  rw [map_map']
  split
  · rw [← call_proj L f σ { s with kind := 1 } hs, map_map']; rfl
  · have := assigned_proj L f (σ.setp ((σ.p.takeName L 4).take L ⟨#[61]⟩)) { s with kind := 1, target := nameIx L σ.p } hs
    show Option.map _ (assignedQ L f _ _) = Option.map _ (assignedP L f (σ.setp ((σ.p.takeName L 4).take L ⟨#[61]⟩)).p)
    rw [← this, map_map']; rfl
theorem giveBack_proj (L : List Tk) (f : Nat) (σ : QSt) (s : Stm) : (giveBackQ L f σ s).map (fun r => r.p) = giveBackP L f σ.p := by
  unfold giveBackQ giveBackP
  rw [map_map']
  split
  · rfl
  · rw [show exprP L f (σ.p.take L ⟨#[114, 101, 116, 117, 114, 110]⟩) = exprP L f (σ.setp (σ.p.take L ⟨#[114, 101, 116, 117, 114, 110]⟩)).p by rfl, ← value_proj L f (σ.setp (σ.p.take L ⟨#[114, 101, 116, 117, 114, 110]⟩)) s.vals, map_map']; rfl
theorem assume_proj (L : List Tk) (f : Nat) (σ : QSt) (s : Stm) : (assumeQ L f σ s).map (fun r => r.p) = (exprP L f (σ.p.take L ⟨#[97, 115, 115, 117, 109, 101]⟩)).map fun τ => τ.take L ⟨#[59]⟩ := by
  unfold assumeQ
  rw [map_map', show exprP L f (σ.p.take L ⟨#[97, 115, 115, 117, 109, 101]⟩) = exprP L f (σ.setp (σ.p.take L ⟨#[97, 115, 115, 117, 109, 101]⟩)).p by rfl, ← value_proj L f (σ.setp (σ.p.take L ⟨#[97, 115, 115, 117, 109, 101]⟩)) s.vals, map_map']; rfl

theorem blocks_proj (L : List Tk) : ∀ f : Nat, (∀ σ b, (blockQ L f σ b).map (fun r => r.1.p) = blockP L f σ.p) ∧ (∀ σ b, (stmtsQ L f σ b).map (fun r => r.1.p) = stmtsP L f σ.p) ∧ (∀ σ b, (statementQ L f σ b).map (fun r => r.1.p) = statementP L f σ.p) ∧ (∀ σ b, (branchQ L f σ b).map (fun r => r.1.p) = branchP L f σ.p) := by
  intro f
  induction f with
  | zero => exact ⟨fun _ _ => rfl, fun _ _ => rfl, fun _ _ => rfl, fun _ _ => rfl⟩
  | succ f ih =>
    obtain ⟨i1, i2, i3, i4⟩ := ih
    refine ⟨fun σ b => ?_, fun σ b => ?_, fun σ b => ?_, fun σ b => ?_⟩
    · rw [blockQ_succ, blockP_succ, map_map', show stmtsP L f (enterP L σ.p ⟨#[123]⟩) = stmtsP L f (σ.setp (enterP L σ.p ⟨#[123]⟩)).p by rfl, ← i2 _ b, map_map']; rfl
    · rw [stmtsQ_succ, stmtsP_succ]
      split
      · rw [bind_proj (p := fun r : QSt × Nat => r.1.p) (k := stmtsP L f) (fun r => i2 r.1 b), i3]
      · rfl
    · rw [statementQ_succ, statementP_succ]
      by_cases h1 : (σ.p.ahead L 0).t = ⟨#[105, 102]⟩
      · rw [if_pos h1, if_pos h1, i4]
      rw [if_neg h1, if_neg h1]
      by_cases h2 : (σ.p.ahead L 0).t = ⟨#[119, 104, 105, 108, 101]⟩
      · rw [if_pos h2, if_pos h2]
        unfold loopQ
        rw [show bracketedP L f (σ.p.take L ⟨#[119, 104, 105, 108, 101]⟩) = bracketedP L f (σ.setp (σ.p.take L ⟨#[119, 104, 105, 108, 101]⟩)).p by rfl, ← cond_proj L f _ []]
        refine bind_proj (p := fun r : QSt × List (Int × Int) => r.1.p) (fun r => ?_)
        rw [map_map']; exact i1 (r.1.add { newStm L σ b with kind := 3, vals := r.2 }) ⟨b.proc, r.1.sts.length, false⟩
      rw [if_neg h2, if_neg h2]
      by_cases h3 : (σ.p.ahead L 0).t = ⟨#[97, 115, 115, 117, 109, 101]⟩
      · rw [if_pos h3, if_pos h3, map_map', ← assume_proj L f σ (newStm L σ b)]
      rw [if_neg h3, if_neg h3]
      by_cases h4 : (σ.p.ahead L 0).t = ⟨#[97, 99, 113, 117, 105, 114, 101]⟩
      · rw [if_pos h4, if_pos (.inl h4)]; rfl
      rw [if_neg h4]
      by_cases h5 : (σ.p.ahead L 0).t = ⟨#[114, 101, 108, 101, 97, 115, 101]⟩
      · rw [if_pos h5, if_pos (.inr h5)]; rfl
      have h45 : ¬ ((σ.p.ahead L 0).t = ⟨#[97, 99, 113, 117, 105, 114, 101]⟩ ∨ (σ.p.ahead L 0).t = ⟨#[114, 101, 108, 101, 97, 115, 101]⟩) := fun e => Or.elim e h4 h5
      rw [if_neg h5, if_neg h45]
      by_cases h6 : (σ.p.ahead L 0).t = ⟨#[114, 101, 116, 117, 114, 110]⟩
      · rw [if_pos h6, if_pos h6, map_map', ← giveBack_proj L f σ (newStm L σ b)]
      rw [if_neg h6, if_neg h6]
      by_cases h7 : (σ.p.ahead L 0).t = ⟨#[115, 107, 105, 112]⟩
      · rw [if_pos h7, if_pos h7]; rfl
      rw [if_neg h7, if_neg h7, map_map', ← aoc_proj L f σ (newStm L σ b) rfl]
    · rw [branchQ_succ, branchP_succ, show bracketedP L f (σ.p.take L ⟨#[105, 102]⟩) = bracketedP L f (σ.setp (σ.p.take L ⟨#[105, 102]⟩)).p by rfl, ← cond_proj L f _ []]
      refine bind_proj (p := fun r : QSt × List (Int × Int) => r.1.p) (fun r => ?_)
      rw [show blockP L f r.1.p = blockP L f (r.1.add { newStm L σ b with kind := 2, vals := r.2 }).p by rfl, ← i1 _ ⟨b.proc, r.1.sts.length, false⟩]
      refine bind_proj (p := fun r : QSt × Nat => r.1.p) (fun c => ?_)
      split
      · rw [map_map']; exact i1 (c.1.setp c.1.p.step) ⟨b.proc, r.1.sts.length, true⟩
      · rfl
theorem block_proj (L : List Tk) (f : Nat) (σ : QSt) (b : Blk) : (blockQ L f σ b).map (fun r => r.1.p) = blockP L f σ.p := (blocks_proj L f).1 σ b

theorem procedure_proj (L : List Tk) (f : Nat) (σ : QSt) : (procedureQ L f σ).map (fun r => r.p) = procedureP L f σ.p := by
  unfold procedureQ procedureP
  simp only
  generalize (if (enterP L (({ σ.p.take L ⟨#[112, 114, 111, 99]⟩ with proc := wrap64 ((σ.p.take L ⟨#[112, 114, 111, 99]⟩).proc + 1) } : PSt).takeName L 2) ⟨#[40]⟩).sees L ⟨#[41]⟩ then some (enterP L (({ σ.p.take L ⟨#[112, 114, 111, 99]⟩ with proc := wrap64 ((σ.p.take L ⟨#[112, 114, 111, 99]⟩).proc + 1) } : PSt).takeName L 2) ⟨#[40]⟩) else moreP L 3 f ((enterP L (({ σ.p.take L ⟨#[112, 114, 111, 99]⟩ with proc := wrap64 ((σ.p.take L ⟨#[112, 114, 111, 99]⟩).proc + 1) } : PSt).takeName L 2) ⟨#[40]⟩).takeName L 3)) = o
  cases o with
  | none => rfl
  | some e =>
    show (Option.map _ (blockQ L f _ _)).map _ = blockP L f (σ.setp (leaveP L e ⟨#[41]⟩)).p
    rw [map_map', ← block_proj L f _ ⟨(leaveP L e ⟨#[41]⟩).proc, -1, false⟩]; rfl
theorem procs_proj (L : List Tk) : ∀ (f : Nat) (σ : QSt), (procsQ L f σ).map (fun r => r.p) = procsP L f σ.p := by
  intro f
  induction f with
  | zero => intro σ; rfl
  | succ f ih =>
    intro σ
    rw [procsQ, procsP]
    split
    · rw [bind_proj (p := fun r : QSt => r.p) (k := procsP L f) ih, procedure_proj]
    · rfl
theorem program_proj (L : List Tk) (f : Nat) (σ : QSt) : (programQ L f σ).map (fun r => r.p) = programP L f σ.p := by
  unfold programQ programP
  cases listP L f ⟨#[115, 104, 97, 114, 101, 100]⟩ 0 σ.p with
  | none => rfl
  | some a =>
    show Option.map _ ((listP L f _ 1 a).bind _) = (listP L f _ 1 a).bind _
    cases listP L f ⟨#[108, 111, 99, 107, 115]⟩ 1 a with
    | none => rfl
    | some b =>
      show Option.map _ ((procedureQ L f (σ.setp b)).bind _) = (procedureP L f (σ.setp b).p).bind _
      rw [← procedure_proj]
      refine bind_proj (p := fun r : QSt => r.p) (fun c => ?_)
      rw [← procs_proj]
      refine bind_proj (p := fun r : QSt => r.p) (fun d => ?_)
      rw [map_map']; rfl

end RR
