/- The program's parser: what expressions leave as it was; values, calls. Plain functions. No Go here. -/
import Derived.Test.YtlpmkpjhdahfhaaGreatDoorParse2
namespace RR
open Go Go.RowKit

/-- Behind it there are no fewer tokens taken; the calls and the procedure's number are as they were. -/
def Good (σ σ' : PSt) : Prop := σ'.calls = σ.calls ∧ σ.next ≤ σ'.next ∧ σ'.proc = σ.proc
theorem Good.refl (σ : PSt) : Good σ σ := ⟨rfl, Nat.le_refl _, rfl⟩
theorem Good.trans {a b c : PSt} (h : Good a b) (k : Good b c) : Good a c := ⟨k.1.trans h.1, Nat.le_trans h.2.1 k.2.1, k.2.2.trans h.2.2⟩
theorem good_fail (σ : PSt) : Good σ σ.fail := ⟨rfl, Nat.le_refl _, rfl⟩
theorem good_step (σ : PSt) : Good σ σ.step := ⟨rfl, Nat.le_succ _, rfl⟩
theorem good_take (L : List Tk) (σ : PSt) (t : ByteArray) : Good σ (σ.take L t) := by
  unfold PSt.take; split
  · exact good_step σ
  · exact good_fail σ
theorem good_takeName (L : List Tk) (σ : PSt) (r : Nat) : Good σ (σ.takeName L r) := by
  unfold PSt.takeName; split
  · exact ⟨rfl, Nat.le_succ _, rfl⟩
  · exact good_fail σ
theorem good_enter (L : List Tk) (σ : PSt) (t : ByteArray) : Good σ (enterP L σ t) := by
  unfold enterP; split
  · exact good_fail σ
  · have := good_take L σ t
    exact ⟨this.1, this.2.1, this.2.2⟩
theorem good_leave (L : List Tk) (σ : PSt) (t : ByteArray) : Good σ (leaveP L σ t) := by
  have := good_take L σ t
  exact ⟨this.1, this.2.1, this.2.2⟩

theorem good_nots (L : List Tk) : ∀ (f : Nat) (σ σ' : PSt), notsP L f σ = some σ' → Good σ σ' := by
  intro f
  induction f with
  | zero => intro σ σ' h; rw [notsP] at h; cases h
  | succ f ih =>
    intro σ σ' h
    rw [notsP] at h
    split at h
    · exact (good_take L σ _).trans (ih _ _ h)
    · rw [← Option.some.inj h]; exact Good.refl _

theorem bindS {α β : Type} {o : Option α} {g : α → Option β} {b : β} (h : o.bind g = some b) : ∃ a, o = some a ∧ g a = some b := by
  cases o with
  | none => cases h
  | some a => exact ⟨a, rfl, h⟩

theorem good_exprs (L : List Tk) : ∀ f : Nat, (∀ σ σ', exprP L f σ = some σ' → Good σ σ') ∧ (∀ σ σ', orP L f σ = some σ' → Good σ σ') ∧ (∀ σ σ', termP L f σ = some σ' → Good σ σ') ∧ (∀ σ σ', andP L f σ = some σ' → Good σ σ') ∧ (∀ σ σ', factorP L f σ = some σ' → Good σ σ') ∧ (∀ σ σ', bracketedP L f σ = some σ' → Good σ σ') := by
  intro f
  induction f with
  | zero =>
    refine ⟨?_, ?_, ?_, ?_, ?_, ?_⟩ <;> intro σ σ' h
    · rw [exprP] at h; cases h
    · rw [orP] at h; cases h
    · rw [termP] at h; cases h
    · rw [andP] at h; cases h
    · rw [factorP] at h; cases h
    · rw [bracketedP] at h; cases h
  | succ f ih =>
    obtain ⟨i1, i2, i3, i4, i5, i6⟩ := ih
    refine ⟨?_, ?_, ?_, ?_, ?_, ?_⟩ <;> intro σ σ' h
    · rw [exprP] at h
      obtain ⟨a, h1, h2⟩ := bindS h
      exact (i3 _ _ h1).trans (i2 _ _ h2)
    · rw [orP] at h
      split at h
      · obtain ⟨a, h1, h2⟩ := bindS h
        exact (good_step σ).trans ((i3 _ _ h1).trans (i2 _ _ h2))
      · rw [← Option.some.inj h]; exact Good.refl _
    · rw [termP] at h
      obtain ⟨a, h1, h2⟩ := bindS h
      exact (i5 _ _ h1).trans (i4 _ _ h2)
    · rw [andP] at h
      split at h
      · obtain ⟨a, h1, h2⟩ := bindS h
        exact (good_step σ).trans ((i5 _ _ h1).trans (i4 _ _ h2))
      · rw [← Option.some.inj h]; exact Good.refl _
    · rw [factorP] at h
      obtain ⟨a, h1, h2⟩ := bindS h
      refine (good_nots L f _ _ h1).trans ?_
      split at h2
      · exact i6 _ _ h2
      · split at h2
        · rw [← Option.some.inj h2]; exact good_take L a _
        · rw [← Option.some.inj h2]; exact good_takeName L a 4
    · rw [bracketedP] at h
      obtain ⟨a, h1, h2⟩ := Option.map_eq_some_iff.1 h
      rw [← h2]
      exact ((good_enter L σ _).trans (i1 _ _ h1)).trans (good_leave L a _)

theorem good_expr {L : List Tk} {f : Nat} {σ σ' : PSt} (h : exprP L f σ = some σ') : Good σ σ' := (good_exprs L f).1 σ σ' h

theorem good_values (L : List Tk) : ∀ (f : Nat) (σ : PSt) (n : Nat) (r : PSt × Nat), valuesP L f σ n = some r → n ≤ σ.next + 1 → Good σ r.1 ∧ r.2 ≤ r.1.next + 1 := by
  intro f
  induction f with
  | zero => intro σ n r h; rw [valuesP] at h; cases h
  | succ f ih =>
    intro σ n r h hn
    rw [valuesP] at h
    split at h
    · obtain ⟨a, h1, h2⟩ := bindS h
      have g := (good_step σ).trans (good_expr h1)
      have := ih a (n + 1) r h2 (by have := (good_expr h1).2.1; have e : σ.step.next = σ.next + 1 := rfl; omega)
      exact ⟨g.trans this.1, this.2⟩
    · rw [← Option.some.inj h]; exact ⟨Good.refl _, hn⟩

/-- A call. -/
def callP (L : List Tk) (f : Nat) (σ : PSt) : Option PSt :=
  (if (enterP L (σ.takeName L 6) ⟨#[40]⟩).sees L ⟨#[41]⟩ then some (enterP L (σ.takeName L 6) ⟨#[40]⟩, 0)
   else (exprP L f (enterP L (σ.takeName L 6) ⟨#[40]⟩)).bind fun τ => valuesP L f τ 1).map fun r =>
    { leaveP L r.1 ⟨#[41]⟩ with calls := (leaveP L r.1 ⟨#[41]⟩).calls ++ [⟨(σ.ahead L 0).t, (σ.ahead L 0).p, r.2⟩] }

end RR
