/- The parser with statements and nodes: how far its lists can grow: statements, procedures, the program. Plain functions. No Go here. -/
import Derived.Test.YtmfcpbhdggonfaaGreatDoorQarC
namespace RR
open Go Go.RowKit

theorem projS {α : Type} {o : Option α} {p : α → PSt} {q : Option PSt} (h : o.map p = q) {r : α} (e : o = some r) : q = some (p r) := by rw [← h, e]; rfl

theorem expr_ok {L : List Tk} {f : Nat} {σ : QSt} {r : QSt × Int} (h : exprQ L f σ = some r) (hf : r.1.p.failed = false) : σ.p.failed = false := by
  obtain ⟨M, x⟩ := x_expr (projS (expr_proj L f σ) h) hf
  exact x.ok
theorem value_ok {L : List Tk} {f : Nat} {σ : QSt} {v : List (Int × Int)} {r : QSt × List (Int × Int)} (h : valueQ L f σ v = some r) (hf : r.1.p.failed = false) : σ.p.failed = false := by
  unfold valueQ at h
  obtain ⟨a, h1, rfl⟩ := Option.map_eq_some_iff.1 h
  exact expr_ok h1 hf
theorem take_lt {L : List Tk} {a : PSt} {t : ByteArray} (h0 : ¬ t = ⟨#[]⟩) (hf : (a.take L t).failed = false) : a.failed = false ∧ (a.take L t).next = a.next + 1 := by
  have := tok_take h0 hf
  exact ⟨this.ok, this.next⟩

/-- A take at the end. -/
theorem take_end {L : List Tk} {τ : QSt} {n : Nat} {t : ByteArray} (h0 : ¬ t = ⟨#[]⟩) (h : n ≤ τ.p.next) (hf : (τ.setp (τ.p.take L t)).p.failed = false) : n < (τ.setp (τ.p.take L t)).p.next := by
  have := (take_lt h0 (show (τ.p.take L t).failed = false from hf)).2
  show n < (τ.p.take L t).next
  omega

theorem sg_assume {L : List Tk} {f : Nat} {σ τ : QSt} {s : Stm} (h : assumeQ L f σ s = some τ) : SG L (if τ.p.failed then 1 else 0) (if τ.p.failed then 1 else 0) σ τ := by
  unfold assumeQ at h
  obtain ⟨a, h1, h2⟩ := Option.map_eq_some_iff.1 h
  rw [← h2]
  have g := ((xg_setp (σ := σ) (nx_take (L := L) (t := ⟨#[97, 115, 115, 117, 109, 101]⟩) (by decide))).trans (xg_value h1))
  exact sg_simple ((g.trans (xg_setp (nx_take (L := L) (t := ⟨#[59]⟩) (by decide)))).weak (by omega)) (fun hf => take_end (by decide) g.nx.1 hf)
theorem sg_giveBack {L : List Tk} {f : Nat} {σ τ : QSt} {s : Stm} (h : giveBackQ L f σ s = some τ) : SG L (if τ.p.failed then 1 else 0) (if τ.p.failed then 1 else 0) σ τ := by
  unfold giveBackQ at h
  obtain ⟨a, h1, h2⟩ := Option.map_eq_some_iff.1 h
  rw [← h2]
  have g0 := xg_setp (σ := σ) (nx_take (L := L) (a := σ.p) (t := ⟨#[114, 101, 116, 117, 114, 110]⟩) (by decide))
  have g : XG L 1 σ a.1 := by
    split at h1
    · rw [← Option.some.inj h1]; exact g0.weak (by omega)
    · exact (g0.trans (xg_value h1)).weak (by omega)
  exact sg_simple ((g.trans (xg_setp (nx_take (L := L) (t := ⟨#[59]⟩) (by decide)))).weak (by omega)) (fun hf => take_end (by decide) g.nx.1 hf)
theorem sg_aoc {L : List Tk} {f : Nat} {σ τ : QSt} {s : Stm} (h : aocQ L f σ s = some τ) : SG L (if τ.p.failed then 1 else 0) (if τ.p.failed then 1 else 0) σ τ := by
  unfold aocQ at h
  obtain ⟨a, h1, h2⟩ := Option.map_eq_some_iff.1 h
  rw [← h2]
  have g : XG L 1 σ a.1 := by
    split at h1
    · exact xg_call h1
    · exact ((xg_setp (σ := σ) (nx_name.trans (nx_take (L := L) (t := ⟨#[61]⟩) (by decide)))).trans (xg_assigned h1)).weak (by omega)
  exact sg_simple ((g.trans (xg_setp (nx_take (L := L) (t := ⟨#[59]⟩) (by decide)))).weak (by omega)) (fun hf => take_end (by decide) g.nx.1 hf)
theorem sg_lock {L : List Tk} {σ : QSt} {s : Stm} {t : ByteArray} (h0 : ¬ t = ⟨#[]⟩) : SG L (if (lockUseQ L σ s t).p.failed then 1 else 0) (if (lockUseQ L σ s t).p.failed then 1 else 0) σ (lockUseQ L σ s t) := by
  have n := ((nx_take (L := L) (a := σ.p) h0).trans (nx_name (r := 5)))
  have g := xg_setp (σ := σ) (n.trans (nx_take (L := L) (t := ⟨#[59]⟩) (by decide)))
  refine sg_simple (g.weak (by omega)) (fun hf => ?_)
  have := (take_lt (by decide) (show (((σ.p.take L t).takeName L 5).take L ⟨#[59]⟩).failed = false from hf)).2
  show σ.p.next < (((σ.p.take L t).takeName L 5).take L ⟨#[59]⟩).next
  have := n.1; omega
theorem sg_skip {L : List Tk} {σ : QSt} {s : Stm} : SG L (if (skipQ L σ s).p.failed then 1 else 0) (if (skipQ L σ s).p.failed then 1 else 0) σ (skipQ L σ s) := by
  have n := nx_take (L := L) (a := σ.p) (t := ⟨#[115, 107, 105, 112]⟩) (by decide)
  have g := xg_setp (σ := σ) (n.trans (nx_take (L := L) (t := ⟨#[59]⟩) (by decide)))
  refine sg_simple (g.weak (by omega)) (fun hf => ?_)
  have := (take_lt (by decide) (show ((σ.p.take L ⟨#[115, 107, 105, 112]⟩).take L ⟨#[59]⟩).failed = false from hf)).2
  show σ.p.next < ((σ.p.take L ⟨#[115, 107, 105, 112]⟩).take L ⟨#[59]⟩).next
  have := n.1; omega

theorem enter_fails {L : List Tk} {a : PSt} {t : ByteArray} (h0 : ¬ t = ⟨#[]⟩) (h : a.failed = true) : (enterP L a t).failed = true := by
  cases hf : (enterP L a t).failed
  · have := (tok_enter h0 hf).ok; rw [h] at this; cases this
  · rfl
theorem stmts_failed {L : List Tk} {f : Nat} {σ : QSt} {b : Blk} {r : QSt × Nat} (h : stmtsQ L f σ b = some r) (hf : σ.p.failed = true) : r = (σ, 0) := by
  cases f with
  | zero => rw [stmtsQ_zero] at h; cases h
  | succ f =>
    rw [stmtsQ_succ, if_neg (fun e => by rw [hf] at e; cases e.1)] at h
    exact (Option.some.inj h).symm

/-- What a block grows by. -/
def BG (L : List Tk) (σ τ : QSt) : Prop := SG L (if σ.p.failed then 0 else if τ.p.failed then 1 else 0) (if σ.p.failed then 0 else if τ.p.failed then 1 else 0) σ τ
/-- Blocks never mend a fault. -/
def Sticky (σ τ : QSt) : Prop := σ.p.failed = true → τ.p.failed = true

theorem setp_sg {L : List Tk} {σ : QSt} {q : PSt} (h : Nx L σ.p q) : SG L 0 0 σ (σ.setp q) := (xg_setp h).sg

theorem sg_blocks (L : List Tk) : ∀ f : Nat,
    (∀ σ b r, blockQ L f σ b = some r → BG L σ r.1 ∧ Sticky σ r.1) ∧
    (∀ σ b r, stmtsQ L f σ b = some r → BG L σ r.1 ∧ Sticky σ r.1) ∧
    (∀ σ b r, statementQ L f σ b = some r → σ.p.failed = false → BG L σ r.1) ∧
    (∀ σ b r, branchQ L f σ b = some r → σ.p.failed = false → σ.p.sees L ⟨#[105, 102]⟩ = true → BG L σ r.1) := by
  have leave_fails : ∀ {a : PSt} {t : ByteArray}, (¬ t = ⟨#[]⟩) → a.failed = true → (leaveP L a t).failed = true := fun {a t} h0 h => by
    cases hf : (leaveP L a t).failed
    · have := (tok_leave h0 hf).ok; rw [h] at this; cases this
    · rfl
  -- a condition, the statement itself, then a block
  have head : ∀ {σ : QSt} {t : ByteArray} {f : Nat} {v : List (Int × Int)} {a : QSt × List (Int × Int)} {s : Stm}, (¬ t = ⟨#[]⟩) → σ.p.sees L t = true → condQ L f (σ.setp (σ.p.take L t)) v = some a → SG L 0 0 σ (a.1.add s) := fun {σ t f v a s} h0 hs hc => by
    have g := xg_cond hc
    have e : σ.p.take L t = σ.p.step := by unfold PSt.take; rw [hs]; rfl
    rw [e] at g
    have gr := g.grow
    have m := g.mono
    have x := g.nx
    have st := g.sts
    have e1 : (σ.setp σ.p.step).p.next = σ.p.next + 1 := rfl
    have e2 : (σ.setp σ.p.step).nds = σ.nds := rfl
    have e3 : (σ.setp σ.p.step).sts = σ.sts := rfl
    have x1 := x.1
    rw [e1, e2] at gr
    rw [e2] at m
    rw [e1] at x1
    rw [e3] at st
    refine ⟨(nx_step h0 hs).trans x, m, ?_, ?_, ?_⟩
    · show _ ≤ (a.1.sts ++ [s]).length; rw [st]; simp
    · show a.1.nds.length + _ ≤ _ + 3 * a.1.p.next + 0; omega
    · show (a.1.sts ++ [s]).length + _ ≤ _ + a.1.p.next + 0; rw [st]; simp; omega
  intro f
  induction f with
  | zero =>
    refine ⟨fun σ b r h => ?_, fun σ b r h => ?_, fun σ b r h => ?_, fun σ b r h => ?_⟩
    · rw [blockQ_zero] at h; cases h
    · rw [stmtsQ_zero] at h; cases h
    · rw [statementQ_zero] at h; cases h
    · rw [branchQ_zero] at h; cases h
  | succ f ih =>
    obtain ⟨i1, i2, i3, i4⟩ := ih
    refine ⟨fun σ b r h => ?_, fun σ b r h => ?_, fun σ b r h hnf => ?_, fun σ b r h hnf hif => ?_⟩
    · rw [blockQ_succ] at h
      obtain ⟨a, h1, h2⟩ := Option.map_eq_some_iff.1 h
      obtain ⟨g, st⟩ := i2 _ _ _ h1
      have g1 := setp_sg (σ := σ) (nx_enter (L := L) (a := σ.p) (t := ⟨#[123]⟩) (by decide))
      have g3 := setp_sg (σ := a.1) (nx_leave (L := L) (a := a.1.p) (t := ⟨#[125]⟩) (by decide))
      rw [← h2]
      have stick : Sticky σ (a.1.setp (leaveP L a.1.p ⟨#[125]⟩)) := fun hf => leave_fails (by decide) (st (enter_fails (by decide) hf))
      refine ⟨?_, stick⟩
      unfold BG at g ⊢
      cases hf : σ.p.failed
      · rw [if_neg (by decide)]
        refine ((g1.trans g).trans g3).weak ?_ ?_
        all_goals
          cases hl : (a.1.setp (leaveP L a.1.p ⟨#[125]⟩)).p.failed
          · have h3 : a.1.p.failed = false := by
              cases hx : a.1.p.failed
              · rfl
              · have := leave_fails (t := ⟨#[125]⟩) (by decide) hx
                rw [show (leaveP L a.1.p ⟨#[125]⟩).failed = false from hl] at this; cases this
            rw [h3]; split <;> simp
          · split <;> (try split) <;> simp
      · have hf2 : (σ.setp (enterP L σ.p ⟨#[123]⟩)).p.failed = true := enter_fails (by decide) hf
        rw [hf2] at g
        exact ((g1.trans g).trans g3).weak (by simp) (by simp)
    · rw [stmtsQ_succ] at h
      split at h
      · rename_i hs
        obtain ⟨a, h1, h2⟩ := bindS h
        have g1 := i3 _ _ _ h1 hs.1
        obtain ⟨g2, st⟩ := i2 _ _ _ h2
        refine ⟨?_, fun hf => by rw [hs.1] at hf; cases hf⟩
        unfold BG at g1 g2 ⊢
        rw [hs.1] at g1 ⊢
        cases hf : a.1.p.failed
        · rw [hf] at g1 g2
          exact (g1.trans g2).weak (by simp) (by simp)
        · rw [hf] at g1 g2
          have hr := st hf
          rw [hr]
          exact (g1.trans g2).weak (by simp) (by simp)
      · rw [← Option.some.inj h]
        refine ⟨?_, fun hf => hf⟩
        unfold BG
        exact (XG.refl L σ).sg.weak (Nat.zero_le _) (Nat.zero_le _)
    · have aheadS : ∀ {t : ByteArray}, (σ.p.ahead L 0).t = t → σ.p.sees L t = true := fun {t} e => by unfold PSt.sees; exact decide_eq_true e
      unfold BG
      rw [hnf, if_neg (by decide)]
      rw [statementQ_succ] at h
      split at h
      · rename_i e
        have := i4 _ _ _ h hnf (aheadS e)
        unfold BG at this
        rw [hnf, if_neg (by decide)] at this
        exact this
      split at h
      · rename_i _ e
        unfold loopQ at h
        obtain ⟨a, h1, h2⟩ := bindS h
        obtain ⟨c, h3, h4⟩ := Option.map_eq_some_iff.1 h2
        have gh := head (s := { newStm L σ b with kind := 3, vals := a.2 }) (by decide) (aheadS e) h1
        obtain ⟨gb, st⟩ := i1 _ _ _ h3
        rw [← h4]
        unfold BG at gb
        refine (gh.trans gb).weak ?_ ?_
        all_goals (show 0 + (if (a.1.add { newStm L σ b with kind := 3, vals := a.2 }).p.failed = true then 0 else if c.1.p.failed = true then 1 else 0) ≤ if c.1.p.failed = true then 1 else 0; split <;> simp)
      split at h
      · obtain ⟨c, h1, h2⟩ := Option.map_eq_some_iff.1 h
        rw [← h2]; exact sg_assume h1
      split at h
      · rename_i e
        rw [← Option.some.inj h]; exact sg_lock (by rw [e]; decide)
      split at h
      · rename_i e
        rw [← Option.some.inj h]; exact sg_lock (by rw [e]; decide)
      split at h
      · obtain ⟨c, h1, h2⟩ := Option.map_eq_some_iff.1 h
        rw [← h2]; exact sg_giveBack h1
      split at h
      · rw [← Option.some.inj h]; exact sg_skip
      · obtain ⟨c, h1, h2⟩ := Option.map_eq_some_iff.1 h
        rw [← h2]; exact sg_aoc h1
    · unfold BG
      rw [hnf, if_neg (by decide)]
      rw [branchQ_succ] at h
      obtain ⟨a, h1, h2⟩ := bindS h
      obtain ⟨c, h3, h4⟩ := bindS h2
      have gh := head (s := { newStm L σ b with kind := 2, vals := a.2 }) (by decide) hif h1
      obtain ⟨gb, st⟩ := i1 _ _ _ h3
      unfold BG at gb
      split at h4
      · rename_i hs
        obtain ⟨d, h5, h6⟩ := Option.map_eq_some_iff.1 h4
        obtain ⟨gd, _⟩ := i1 _ _ _ h5
        unfold BG at gd
        have hcf : c.1.p.failed = false := (sees_is (by decide) hs).1
        have gs := setp_sg (σ := c.1) (nx_step (L := L) (by decide) hs)
        rw [hcf, if_neg (show ¬ false = true by decide)] at gb
        have hcf2 : (c.1.setp c.1.p.step).p.failed = false := hcf
        rw [hcf2, if_neg (by decide)] at gd
        rw [← h6]
        refine (((gh.trans gb).trans gs).trans gd).weak ?_ ?_
        all_goals simp
      · rw [← Option.some.inj h4]
        refine (gh.trans gb).weak ?_ ?_
        all_goals (show 0 + (if (a.1.add { newStm L σ b with kind := 2, vals := a.2 }).p.failed = true then 0 else if c.1.p.failed = true then 1 else 0) ≤ if c.1.p.failed = true then 1 else 0; split <;> simp)

theorem more_nx (L : List Tk) (r : Nat) : ∀ (f : Nat) (a b : PSt), moreP L r f a = some b → Nx L a b := by
  intro f
  induction f with
  | zero => intro a b h; rw [moreP] at h; cases h
  | succ f ih =>
    intro a b h
    rw [moreP] at h
    split at h
    · rename_i hs
      exact ((nx_step (by decide) hs).trans nx_name).trans (ih _ _ h)
    · rw [← Option.some.inj h]; exact Nx.refl _ _
theorem list_nx {L : List Tk} {f r : Nat} {t : ByteArray} {a b : PSt} (h0 : ¬ t = ⟨#[]⟩) (h : listP L f t r a = some b) : Nx L a b := by
  unfold listP at h
  split at h
  · rename_i hs
    obtain ⟨c, h1, h2⟩ := Option.map_eq_some_iff.1 h
    rw [← h2]
    exact (((nx_step h0 hs).trans nx_name).trans (more_nx L r f _ _ h1)).trans (nx_take (by decide))
  · rw [← Option.some.inj h]; exact Nx.refl _ _
theorem sg_procedure {L : List Tk} {f : Nat} {σ τ : QSt} (h : procedureQ L f σ = some τ) : SG L 1 2 σ τ ∧ (σ.p.sees L ⟨#[112, 114, 111, 99]⟩ = true → σ.p.next < τ.p.next) := by
  unfold procedureQ at h
  simp only at h
  obtain ⟨e, h1, h2⟩ := bindS h
  obtain ⟨r, h3, h4⟩ := Option.map_eq_some_iff.1 h2
  have n1 := nx_take (L := L) (a := σ.p) (t := ⟨#[112, 114, 111, 99]⟩) (by decide)
  generalize ha : ({ σ.p.take L ⟨#[112, 114, 111, 99]⟩ with proc := wrap64 ((σ.p.take L ⟨#[112, 114, 111, 99]⟩).proc + 1) } : PSt) = a1 at h1
  have n1' : Nx L σ.p a1 := by rw [← ha]; exact ⟨n1.1, n1.2⟩
  have n2 : Nx L a1 (enterP L (a1.takeName L 2) ⟨#[40]⟩) := nx_name.trans (nx_enter (by decide))
  have n3 : Nx L (enterP L (a1.takeName L 2) ⟨#[40]⟩) e := by
    split at h1
    · rw [← Option.some.inj h1]; exact Nx.refl _ _
    · exact nx_name.trans (more_nx L 3 f _ _ h1)
  have n4 : Nx L e (leaveP L e ⟨#[41]⟩) := nx_leave (by decide)
  have g1 := setp_sg (σ := σ) (((n1'.trans n2).trans n3).trans n4)
  have g2 := ((sg_blocks L f).1 _ _ _ h3).1
  unfold BG at g2
  rw [← h4]
  refine ⟨((g1.trans g2).trans (sg_add r.1 _)).weak ?_ ?_, fun hs => ?_⟩
  · split
    · omega
    · split <;> omega
  · split
    · omega
    · split <;> omega
  · have e1 : (σ.p.take L ⟨#[112, 114, 111, 99]⟩).next = σ.p.next + 1 := by unfold PSt.take; rw [hs]; rfl
    have x1 : a1.next = σ.p.next + 1 := by rw [← ha]; exact e1
    have x2 := ((n2.trans n3).trans n4).1
    have x3 : (leaveP L e ⟨#[41]⟩).next ≤ r.1.p.next := g2.nx.1
    show σ.p.next < r.1.p.next
    omega
/-- How procedures grow: at most four nodes and three statements a token. -/
structure PG (L : List Tk) (c d : Nat) (σ τ : QSt) : Prop where
  nx : Nx L σ.p τ.p
  gn : τ.nds.length + 4 * σ.p.next ≤ σ.nds.length + 4 * τ.p.next + c
  gs : τ.sts.length + 3 * σ.p.next ≤ σ.sts.length + 3 * τ.p.next + d
theorem PG.trans {L : List Tk} {c d c' d' : Nat} {a b e : QSt} (h : PG L c d a b) (k : PG L c' d' b e) : PG L (c + c') (d + d') a e :=
  ⟨h.nx.trans k.nx, by have := h.gn; have := k.gn; omega, by have := h.gs; have := k.gs; omega⟩
theorem SG.pg {L : List Tk} {c d : Nat} {a b : QSt} (h : SG L c d a b) : PG L c d a b := ⟨h.nx, by have := h.gn; have := h.nx.1; omega, by have := h.gs; have := h.nx.1; omega⟩
theorem pg_procs (L : List Tk) : ∀ (f : Nat) (σ τ : QSt), procsQ L f σ = some τ → PG L 0 0 σ τ ∧ σ.nds.length ≤ τ.nds.length ∧ σ.sts.length ≤ τ.sts.length := by
  intro f
  induction f with
  | zero => intro σ τ h; rw [procsQ] at h; cases h
  | succ f ih =>
    intro σ τ h
    rw [procsQ] at h
    split at h
    · rename_i hs
      obtain ⟨a, h1, h2⟩ := bindS h
      obtain ⟨g, hl⟩ := sg_procedure h1
      have hlt := hl hs
      have gn := g.gn
      have gs := g.gs
      have k : PG L 0 0 σ a := ⟨g.nx, by omega, by omega⟩
      obtain ⟨k2, m1, m2⟩ := ih _ _ h2
      exact ⟨k.trans k2, Nat.le_trans g.mn m1, Nat.le_trans g.ms m2⟩
    · rw [← Option.some.inj h]
      exact ⟨(XG.refl L σ).sg.pg, Nat.le_refl _, Nat.le_refl _⟩
/-- The lists of a program's reading are never long. -/
theorem program_small {L : List Tk} (hL : L.length ≤ 500) {f : Nat} {σ τ : QSt} (h : programQ L f σ = some τ) (h0 : σ.p.next = 0) (h1 : σ.nds = []) (h2 : σ.sts = []) : τ.nds.length ≤ 2001 ∧ τ.sts.length ≤ 1502 := by
  unfold programQ at h
  obtain ⟨a, k1, h⟩ := bindS h
  obtain ⟨b, k2, h⟩ := bindS h
  obtain ⟨c, k3, h⟩ := bindS h
  obtain ⟨d, k4, h⟩ := bindS h
  obtain ⟨e, k5, k6⟩ := Option.map_eq_some_iff.1 h
  have n := (list_nx (by decide) k1).trans (list_nx (by decide) k2)
  have g := ((setp_sg (σ := σ) n).trans (sg_procedure k3).1).pg.trans (pg_procs L f _ _ k4).1
  have gn := g.gn
  have gs := g.gs
  have nx := g.nx.2 (by omega)
  rw [h0, h1] at gn
  rw [h0, h2] at gs
  have e1 : τ.nds = d.nds := by rw [← k6]; rfl
  have e2 : τ.sts = d.sts := by rw [← k6]; rfl
  rw [e1, e2]
  simp only [List.length_nil] at gn gs
  omega

end RR
