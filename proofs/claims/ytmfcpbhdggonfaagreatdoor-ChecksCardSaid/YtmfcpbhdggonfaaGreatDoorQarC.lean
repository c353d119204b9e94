/- The parser with statements and nodes: how far its lists can grow. Plain functions. No Go here. -/
import Derived.Test.YtmfcpbhdggonfaaGreatDoorQarB
import Derived.Test.YtmfcpbhdggonfaaGreatDoorNam
namespace RR
open Go Go.RowKit

/-- The place goes on, and not beyond the tokens. -/
def Nx (L : List Tk) (a b : PSt) : Prop := a.next ≤ b.next ∧ (a.next ≤ L.length → b.next ≤ L.length)
theorem Nx.refl (L : List Tk) (a : PSt) : Nx L a a := ⟨Nat.le_refl _, id⟩
theorem Nx.trans {L : List Tk} {a b c : PSt} (h : Nx L a b) (k : Nx L b c) : Nx L a c := ⟨Nat.le_trans h.1 k.1, fun x => k.2 (h.2 x)⟩
theorem nx_fail (L : List Tk) (a : PSt) : Nx L a a.fail := ⟨Nat.le_refl _, id⟩
theorem nx_step {L : List Tk} {a : PSt} {t : ByteArray} (h0 : ¬ t = ⟨#[]⟩) (h : a.sees L t = true) : Nx L a a.step := ⟨Nat.le_succ _, fun _ => (sees_lt h0 h).1⟩
theorem nx_take {L : List Tk} {a : PSt} {t : ByteArray} (h0 : ¬ t = ⟨#[]⟩) : Nx L a (a.take L t) := by
  unfold PSt.take
  cases hs : a.sees L t
  · exact nx_fail L a
  · exact nx_step h0 hs
theorem nx_name {L : List Tk} {a : PSt} {r : Nat} : Nx L a (a.takeName L r) := by
  unfold PSt.takeName
  cases hs : isNameB (a.ahead L 0).t
  · exact nx_fail L a
  · exact ⟨Nat.le_succ _, fun _ => (name_lt hs).1⟩
theorem nx_enter {L : List Tk} {a : PSt} {t : ByteArray} (h0 : ¬ t = ⟨#[]⟩) : Nx L a (enterP L a t) := by
  unfold enterP
  split
  · exact nx_fail L a
  · have := nx_take (L := L) (a := a) h0; exact ⟨this.1, this.2⟩
theorem nx_leave {L : List Tk} {a : PSt} {t : ByteArray} (h0 : ¬ t = ⟨#[]⟩) : Nx L a (leaveP L a t) := by
  have := nx_take (L := L) (a := a) h0; exact ⟨this.1, this.2⟩

/-- How a piece of an expression grows: at most two nodes a token, and c. -/
structure XG (L : List Tk) (c : Nat) (σ τ : QSt) : Prop where
  sts : τ.sts = σ.sts
  nx : Nx L σ.p τ.p
  mono : σ.nds.length ≤ τ.nds.length
  grow : τ.nds.length + 2 * σ.p.next ≤ σ.nds.length + 2 * τ.p.next + c
theorem XG.refl (L : List Tk) (σ : QSt) : XG L 0 σ σ := ⟨rfl, Nx.refl _ _, Nat.le_refl _, by omega⟩
theorem XG.trans {L : List Tk} {c d : Nat} {a b e : QSt} (h : XG L c a b) (k : XG L d b e) : XG L (c + d) a e := ⟨k.sts.trans h.sts, h.nx.trans k.nx, Nat.le_trans h.mono k.mono, by have := h.grow; have := k.grow; omega⟩
theorem XG.weak {L : List Tk} {c d : Nat} {a b : QSt} (h : XG L c a b) (hd : c ≤ d) : XG L d a b := ⟨h.sts, h.nx, h.mono, by have := h.grow; omega⟩
theorem xg_setp {L : List Tk} {σ : QSt} {q : PSt} (h : Nx L σ.p q) : XG L 0 σ (σ.setp q) := ⟨rfl, h, Nat.le_refl _, by show σ.nds.length + _ ≤ _ + 2 * q.next + 0; have := h.1; omega⟩
theorem xg_node {L : List Tk} (σ : QSt) (n : Nd) : XG L 1 σ (σ.node n) := ⟨rfl, Nx.refl _ _, by show _ ≤ (σ.nds ++ [n]).length; simp, by show (σ.nds ++ [n]).length + 2 * σ.p.next ≤ σ.nds.length + 2 * σ.p.next + 1; simp; omega⟩
theorem xg_nots (L : List Tk) : ∀ (f : Nat) (σ : QSt) (n : Nat) (r : QSt × Nat), notsQ L f σ n = some r → n ≤ r.2 ∧ r.1.sts = σ.sts ∧ r.1.nds = σ.nds ∧ Nx L σ.p r.1.p ∧ r.1.p.next = σ.p.next + (r.2 - n) := by
  intro f
  induction f with
  | zero => intro σ n r h; rw [notsQ] at h; cases h
  | succ f ih =>
    intro σ n r h
    rw [notsQ] at h
    split at h
    · rename_i hs
      obtain ⟨h1, h2, h3, h4, h5⟩ := ih _ _ _ h
      have e : (σ.setp σ.p.step).p.next = σ.p.next + 1 := rfl
      exact ⟨by omega, h2, h3, (nx_step (by decide) hs).trans h4, by omega⟩
    · rw [← Option.some.inj h]
      exact ⟨Nat.le_refl _, rfl, rfl, Nx.refl _ _, by simp⟩
theorem xg_addNots : ∀ (n : Nat) (σ : QSt) (w : Int), (addNots n σ w).1.sts = σ.sts ∧ (addNots n σ w).1.p = σ.p ∧ (addNots n σ w).1.nds.length = σ.nds.length + n := by
  intro n
  induction n with
  | zero => intro σ w; exact ⟨rfl, rfl, rfl⟩
  | succ n ih =>
    intro σ w
    obtain ⟨h1, h2, h3⟩ := ih (σ.node ⟨4, -1, 0, w⟩) σ.nds.length
    rw [addNots]
    refine ⟨h1, h2, ?_⟩
    rw [h3]
    show (σ.nds ++ [_]).length + n = _
    simp; omega

theorem xg_plain {L : List Tk} {br : QSt → Option (QSt × Int)} (hbr : ∀ σ r, br σ = some r → XG L 1 σ r.1) {σ : QSt} {r : QSt × Int} (h : plainQ L br σ = some r) : XG L 1 σ r.1 := by
  unfold plainQ at h
  have cst : ∀ (t : ByteArray) (s : Nat), (¬ t = ⟨#[]⟩) → XG L 1 σ (constQ L σ t s).1 := fun t s h0 => ((xg_setp (nx_take h0)).trans (xg_node _ _)).weak (Nat.le_refl _)
  split at h
  · exact hbr σ r h
  split at h
  · rw [← Option.some.inj h]; exact cst _ _ (by decide)
  split at h
  · rw [← Option.some.inj h]; exact cst _ _ (by decide)
  split at h
  · rw [← Option.some.inj h]; exact cst _ _ (by decide)
  · rw [← Option.some.inj h]; exact ((xg_setp nx_name).trans (xg_node _ _)).weak (Nat.le_refl _)

theorem xg_exprs (L : List Tk) : ∀ f : Nat, (∀ σ r, exprQ L f σ = some r → XG L 1 σ r.1) ∧ (∀ σ w r, orQ L f σ w = some r → XG L 0 σ r.1) ∧ (∀ σ r, termQ L f σ = some r → XG L 1 σ r.1) ∧ (∀ σ w r, andQ L f σ w = some r → XG L 0 σ r.1) ∧ (∀ σ r, factorQ L f σ = some r → XG L 1 σ r.1) ∧ (∀ σ r, bracketedQ L f σ = some r → XG L 1 σ r.1) := by
  have loop : ∀ {σ τ υ : QSt} {n : Nd} {t : ByteArray}, (¬ t = ⟨#[]⟩) → σ.p.sees L t = true → XG L 1 (σ.setp σ.p.step) τ → XG L 0 (τ.node n) υ → XG L 0 σ υ := fun {σ τ υ n t} h0 hs h k => by
    have a := (h.trans (xg_node τ n)).trans k
    have e : (σ.setp σ.p.step).p.next = σ.p.next + 1 := rfl
    have e2 : (σ.setp σ.p.step).nds = σ.nds := rfl
    have g := a.grow
    have m := a.mono
    rw [e, e2] at g
    rw [e2] at m
    exact ⟨a.sts, (nx_step h0 hs).trans a.nx, m, by omega⟩
  intro f
  induction f with
  | zero =>
    refine ⟨fun σ r h => ?_, fun σ w r h => ?_, fun σ r h => ?_, fun σ w r h => ?_, fun σ r h => ?_, fun σ r h => ?_⟩
    · rw [exprQ_zero] at h; cases h
    · rw [orQ_zero] at h; cases h
    · rw [termQ_zero] at h; cases h
    · rw [andQ_zero] at h; cases h
    · rw [factorQ_zero] at h; cases h
    · rw [bracketedQ_zero] at h; cases h
  | succ f ih =>
    obtain ⟨i1, i2, i3, i4, i5, i6⟩ := ih
    refine ⟨fun σ r h => ?_, fun σ w r h => ?_, fun σ r h => ?_, fun σ w r h => ?_, fun σ r h => ?_, fun σ r h => ?_⟩
    · rw [exprQ_succ] at h
      obtain ⟨a, h1, h2⟩ := bindS h
      exact (i3 _ _ h1).trans (i2 _ _ _ h2)
    · rw [orQ_succ] at h
      split at h
      · rename_i hs
        obtain ⟨a, h1, h2⟩ := bindS h
        exact loop (by decide) hs (i3 _ _ h1) (i2 _ _ _ h2)
      · rw [← Option.some.inj h]; exact XG.refl _ _
    · rw [termQ_succ] at h
      obtain ⟨a, h1, h2⟩ := bindS h
      exact (i5 _ _ h1).trans (i4 _ _ _ h2)
    · rw [andQ_succ] at h
      split at h
      · rename_i hs
        obtain ⟨a, h1, h2⟩ := bindS h
        exact loop (by decide) hs (i5 _ _ h1) (i4 _ _ _ h2)
      · rw [← Option.some.inj h]; exact XG.refl _ _
    · rw [factorQ_succ] at h
      obtain ⟨a, h1, h2⟩ := bindS h
      obtain ⟨q, h3, h4⟩ := Option.map_eq_some_iff.1 h2
      obtain ⟨n1, n2, n3, n4, n5⟩ := xg_nots L f _ _ _ h1
      have g := xg_plain i6 h3
      obtain ⟨m1, m2, m3⟩ := xg_addNots a.2 q.1 q.2
      rw [← h4]
      refine ⟨m1.trans (g.sts.trans n2), ?_, ?_, ?_⟩
      · rw [m2]; exact n4.trans g.nx
      · have := g.mono; rw [m3]; rw [n3] at this; omega
      · have := g.grow; rw [m3, m2]; rw [n3] at this; omega
    · rw [bracketedQ_succ] at h
      obtain ⟨a, h1, h2⟩ := Option.map_eq_some_iff.1 h
      rw [← h2]
      exact (((xg_setp (nx_enter (by decide))).trans (i1 _ _ h1)).trans (xg_setp (nx_leave (by decide)))).weak (by omega)

theorem xg_value {L : List Tk} {f : Nat} {σ : QSt} {v : List (Int × Int)} {r : QSt × List (Int × Int)} (h : valueQ L f σ v = some r) : XG L 1 σ r.1 := by
  unfold valueQ at h
  obtain ⟨a, h1, rfl⟩ := Option.map_eq_some_iff.1 h
  exact (xg_exprs L f).1 _ _ h1
theorem xg_values (L : List Tk) : ∀ (f : Nat) (σ : QSt) (v : List (Int × Int)) (r : QSt × List (Int × Int)), valuesQ L f σ v = some r → XG L 0 σ r.1 := by
  intro f
  induction f with
  | zero => intro σ v r h; rw [valuesQ] at h; cases h
  | succ f ih =>
    intro σ v r h
    rw [valuesQ] at h
    split at h
    · rename_i hs
      obtain ⟨a, h1, h2⟩ := bindS h
      have a1 := (xg_value h1).trans (ih _ _ _ h2)
      have e : (σ.setp σ.p.step).p.next = σ.p.next + 1 := rfl
      have e2 : (σ.setp σ.p.step).nds = σ.nds := rfl
      have g := a1.grow
      have m := a1.mono
      rw [e, e2] at g
      rw [e2] at m
      exact ⟨a1.sts, (nx_step (by decide) hs).trans a1.nx, m, by omega⟩
    · rw [← Option.some.inj h]; exact XG.refl _ _
theorem xg_cond {L : List Tk} {f : Nat} {σ : QSt} {v : List (Int × Int)} {r : QSt × List (Int × Int)} (h : condQ L f σ v = some r) : XG L 1 σ r.1 := by
  cases f with
  | zero => rw [condQ] at h; cases h
  | succ f =>
    rw [condQ] at h
    obtain ⟨a, h1, h2⟩ := Option.map_eq_some_iff.1 h
    rw [← h2]
    exact (((xg_setp (nx_enter (by decide))).trans (xg_value h1)).trans (xg_setp (nx_leave (by decide)))).weak (by omega)
theorem xg_call {L : List Tk} {f : Nat} {σ : QSt} {s : Stm} {r : QSt × Stm} (h : callQ L f σ s = some r) : XG L 1 σ r.1 := by
  unfold callQ at h
  obtain ⟨a, h1, h2⟩ := Option.map_eq_some_iff.1 h
  rw [← h2]
  have start : XG L 0 σ (σ.setp (enterP L (σ.p.takeName L 6) ⟨#[40]⟩)) := xg_setp (nx_name.trans (nx_enter (by decide)))
  have mid : XG L 1 σ a.1 := by
    split at h1
    · rw [← Option.some.inj h1]; exact start.weak (by omega)
    · obtain ⟨b, h3, h4⟩ := bindS h1
      exact ((start.trans (xg_value h3)).trans (xg_values L f _ _ _ h4)).weak (by omega)
  have l := nx_leave (L := L) (a := a.1.p) (t := ⟨#[41]⟩) (by decide)
  exact (mid.trans (xg_setp (q := { leaveP L a.1.p ⟨#[41]⟩ with calls := (leaveP L a.1.p ⟨#[41]⟩).calls ++ [⟨(σ.p.ahead L 0).t, (σ.p.ahead L 0).p, a.2.length⟩] }) ⟨l.1, l.2⟩)).weak (by omega)
theorem xg_assigned {L : List Tk} {f : Nat} {σ : QSt} {s : Stm} {r : QSt × Stm} (h : assignedQ L f σ s = some r) : XG L 1 σ r.1 := by
  unfold assignedQ at h
  split at h
  · exact xg_call h
  · obtain ⟨a, h1, rfl⟩ := Option.map_eq_some_iff.1 h
    exact xg_value h1

/-- How statements grow: at most three nodes and one statement a token, and one of each if it has failed. -/
structure SG (L : List Tk) (c d : Nat) (σ τ : QSt) : Prop where
  nx : Nx L σ.p τ.p
  mn : σ.nds.length ≤ τ.nds.length
  ms : σ.sts.length ≤ τ.sts.length
  gn : τ.nds.length + 3 * σ.p.next ≤ σ.nds.length + 3 * τ.p.next + c
  gs : τ.sts.length + σ.p.next ≤ σ.sts.length + τ.p.next + d
theorem SG.trans {L : List Tk} {c d c' d' : Nat} {a b e : QSt} (h : SG L c d a b) (k : SG L c' d' b e) : SG L (c + c') (d + d') a e :=
  ⟨h.nx.trans k.nx, Nat.le_trans h.mn k.mn, Nat.le_trans h.ms k.ms, by have := h.gn; have := k.gn; omega, by have := h.gs; have := k.gs; omega⟩
theorem SG.weak {L : List Tk} {c d c' d' : Nat} {a b : QSt} (h : SG L c d a b) (hc : c ≤ c') (hd : d ≤ d') : SG L c' d' a b := ⟨h.nx, h.mn, h.ms, by have := h.gn; omega, by have := h.gs; omega⟩
theorem XG.sg {L : List Tk} {c : Nat} {a b : QSt} (h : XG L c a b) : SG L c 0 a b := ⟨h.nx, h.mono, by rw [h.sts]; exact Nat.le_refl _, by have := h.grow; have := h.nx.1; omega, by rw [h.sts]; have := h.nx.1; omega⟩
theorem sg_add {L : List Tk} (σ : QSt) (s : Stm) : SG L 0 1 σ (σ.add s) := ⟨Nx.refl _ _, Nat.le_refl _, by show _ ≤ (σ.sts ++ [s]).length; simp, by show σ.nds.length + _ ≤ _ + 3 * σ.p.next + 0; omega, by show (σ.sts ++ [s]).length + σ.p.next ≤ _ + σ.p.next + 1; simp; omega⟩
/-- A statement that took a token at least. -/
theorem SG.tok {L : List Tk} {c d : Nat} {a b : QSt} (h : SG L c d a b) (hlt : a.p.next < b.p.next) (hg : b.nds.length + 2 * a.p.next ≤ a.nds.length + 2 * b.p.next + 1) (hs : b.sts.length ≤ a.sts.length + 1) : SG L 0 0 a b := ⟨h.nx, h.mn, h.ms, by omega, by omega⟩

/-- A piece of one statement: what it reads, and the statement itself. -/
theorem sg_simple {L : List Tk} {a b : QSt} {s : Stm} (h : XG L 1 a b) (hlt : b.p.failed = false → a.p.next < b.p.next) : SG L (if b.p.failed then 1 else 0) (if b.p.failed then 1 else 0) a (b.add s) := by
  have k := h.sg.trans (sg_add b s)
  cases hf : b.p.failed
  · have e : (b.add s).p = b.p := rfl
    exact k.tok (by rw [e]; exact hlt hf) (by show b.nds.length + _ ≤ _ + 2 * b.p.next + 1; exact h.grow) (by show (b.sts ++ [s]).length ≤ _; rw [h.sts]; simp)
  · exact k.weak (by simp) (by simp)

end RR
