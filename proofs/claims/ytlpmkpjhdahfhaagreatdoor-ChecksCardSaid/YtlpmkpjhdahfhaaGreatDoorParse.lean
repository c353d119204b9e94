/- The program's parser: its state, its small steps. Plain functions. No Go here. -/
import Derived.Test.YtlpmkpjhdahfhaaGreatDoorNames2
namespace RR

/-- The parser's state. -/
structure PSt where
  next : Nat
  depth : Int
  proc : Int
  failed : Bool
  names : List Nm
  calls : List Cl

def PSt.fail (σ : PSt) : PSt := { σ with failed := true }
def PSt.step (σ : PSt) : PSt := { σ with next := σ.next + 1 }

/-- The token n places on, or one without text. -/
def PSt.ahead (L : List Tk) (σ : PSt) (n : Nat) : Tk := if h : σ.failed = false ∧ σ.next + n < L.length then L[σ.next + n] else ⟨⟨#[]⟩, 0⟩

def PSt.sees (L : List Tk) (σ : PSt) (t : ByteArray) : Bool := decide ((σ.ahead L 0).t = t)

def PSt.take (L : List Tk) (σ : PSt) (t : ByteArray) : PSt := if σ.sees L t then σ.step else σ.fail

def PSt.seesCall (L : List Tk) (σ : PSt) : Bool := isNameB (σ.ahead L 0).t && decide ((σ.ahead L 1).t = ⟨#[40]⟩)

def PSt.takeName (L : List Tk) (σ : PSt) (role : Nat) : PSt :=
  if isNameB (σ.ahead L 0).t then { σ with next := σ.next + 1, names := σ.names ++ [⟨(σ.ahead L 0).t, (σ.ahead L 0).p, role, σ.proc⟩] } else σ.fail

theorem ahead_in {L : List Tk} {σ : PSt} {n : Nat} (h : σ.failed = false) (h2 : σ.next + n < L.length) : σ.ahead L n = L[σ.next + n] := by unfold PSt.ahead; rw [dif_pos ⟨h, h2⟩]
theorem ahead_failed {L : List Tk} {σ : PSt} {n : Nat} (h : σ.failed = true) : σ.ahead L n = ⟨⟨#[]⟩, 0⟩ := by unfold PSt.ahead; rw [dif_neg (by rw [h]; simp)]
theorem ahead_out {L : List Tk} {σ : PSt} {n : Nat} (h2 : ¬ σ.next + n < L.length) : σ.ahead L n = ⟨⟨#[]⟩, 0⟩ := by unfold PSt.ahead; rw [dif_neg (fun h => h2 h.2)]

/-- There are no more names and calls than tokens were taken; behind a fault perhaps one call more. -/
def Inv (σ : PSt) : Prop := σ.names.length ≤ σ.next ∧ σ.calls.length ≤ σ.next + (if σ.failed then 1 else 0)
theorem inv_fail {σ : PSt} (h : Inv σ) : Inv σ.fail := by
  refine ⟨h.1, ?_⟩
  have := h.2
  show σ.calls.length ≤ σ.next + 1
  split at this <;> omega
theorem inv_step {σ : PSt} (h : Inv σ) : Inv σ.step := by
  refine ⟨Nat.le_succ_of_le h.1, ?_⟩
  have := h.2
  show σ.calls.length ≤ σ.next + 1 + (if σ.failed then 1 else 0)
  omega
theorem inv_name {σ : PSt} (h : Inv σ) (n : Nm) : Inv { σ with next := σ.next + 1, names := σ.names ++ [n] } := by
  refine ⟨?_, ?_⟩
  · show (σ.names ++ [n]).length ≤ σ.next + 1
    rw [List.length_append]; exact Nat.succ_le_succ h.1
  · have := h.2
    show σ.calls.length ≤ σ.next + 1 + (if σ.failed then 1 else 0)
    omega
theorem Inv.small {σ : PSt} (h : Inv σ) : σ.names.length ≤ σ.next ∧ σ.calls.length ≤ σ.next + 1 := by
  refine ⟨h.1, ?_⟩
  have := h.2
  split at this <;> omega

/-- With a text, what is seen is there. -/
theorem sees_lt {L : List Tk} {σ : PSt} {t : ByteArray} (ht : t ≠ ⟨#[]⟩) (h : σ.sees L t = true) : σ.next < L.length ∧ σ.failed = false := by
  unfold PSt.sees at h
  rw [decide_eq_true_iff] at h
  cases hf : σ.failed
  · by_cases h2 : σ.next + 0 < L.length
    · exact ⟨h2, rfl⟩
    · rw [ahead_out h2] at h; exact absurd h.symm ht
  · rw [ahead_failed hf] at h; exact absurd h.symm ht
theorem name_lt {L : List Tk} {σ : PSt} (h : isNameB (σ.ahead L 0).t = true) : σ.next < L.length ∧ σ.failed = false := by
  have he : isNameB (⟨#[]⟩ : ByteArray) = false := isName_empty rfl
  cases hf : σ.failed
  · by_cases h2 : σ.next + 0 < L.length
    · exact ⟨h2, rfl⟩
    · rw [ahead_out h2, he] at h; cases h
  · rw [ahead_failed hf, he] at h; cases h

end RR
