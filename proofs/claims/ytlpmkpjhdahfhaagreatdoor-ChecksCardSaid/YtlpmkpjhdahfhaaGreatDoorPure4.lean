/- More plain functions: the reference's check as a whole. No Go here. -/
import Derived.Test.YtlpmkpjhdahfhaaGreatDoorPure3
namespace RR

/-- The place of the first name that is used as what it is not, from i on. -/
def misF (L : List Tk) (i : Nat) : Option Nat :=
  if h : i < L.length then if isNameB L[i].t && !givenB L i && !rightB L i then some L[i].p else misF L (i + 1) else none
termination_by L.length - i
decreasing_by omega

def procOf (L : List Tk) (i : Nat) : Nat := nth (procsB L) (indexB L (procsB L) (tk L i).t).toNat

/-- The place of the first call with a wrong number of values, from i on. -/
def ariF (L : List Tk) (i : Nat) : Option Nat :=
  if h : i < L.length then if isNameB L[i].t && !givenB L i && isB L ((i : Int) + 1) ⟨#[40]⟩ && decide (valuesB L (i + 1) ≠ (paramsB L (procOf L i)).length) then some L[i].p else ariF L (i + 1) else none
termination_by L.length - i
decreasing_by omega

/-- The error and its place. -/
def namesCheck (L : List Tk) : Int × Int :=
  if 0 ≤ manyB L then (4, manyB L) else if 0 ≤ twiceB L then (5, twiceB L) else
    match misF L 0 with
    | some p => (5, p)
    | none => match ariF L 0 with
      | some p => (6, p)
      | none => (0, 0)

theorem misF_out {L : List Tk} {i : Nat} (h : ¬ i < L.length) : misF L i = none := by rw [misF, dif_neg h]
theorem misF_no {L : List Tk} {i : Nat} (h : i < L.length) (h2 : (isNameB L[i].t && !givenB L i && !rightB L i) = false) : misF L i = misF L (i + 1) := by rw [misF, dif_pos h, h2]; rfl
theorem misF_yes {L : List Tk} {i : Nat} (h : i < L.length) (h2 : (isNameB L[i].t && !givenB L i && !rightB L i) = true) : misF L i = some L[i].p := by rw [misF, dif_pos h, h2]; rfl
theorem ariF_out {L : List Tk} {i : Nat} (h : ¬ i < L.length) : ariF L i = none := by rw [ariF, dif_neg h]
theorem ariF_no {L : List Tk} {i : Nat} (h : i < L.length) (h2 : (isNameB L[i].t && !givenB L i && isB L ((i : Int) + 1) ⟨#[40]⟩ && decide (valuesB L (i + 1) ≠ (paramsB L (procOf L i)).length)) = false) : ariF L i = ariF L (i + 1) := by rw [ariF, dif_pos h, h2]; rfl
theorem ariF_yes {L : List Tk} {i : Nat} (h : i < L.length) (h2 : (isNameB L[i].t && !givenB L i && isB L ((i : Int) + 1) ⟨#[40]⟩ && decide (valuesB L (i + 1) ≠ (paramsB L (procOf L i)).length)) = true) : ariF L i = some L[i].p := by rw [ariF, dif_pos h, h2]; rfl

/-- Where all is right, each call's name is a procedure's. -/
def CallOk (L : List Tk) : Prop := ∀ i, (h : i < L.length) → isNameB L[i].t = true → givenB L i = false → isB L ((i : Int) + 1) ⟨#[40]⟩ = true → rightB L i = true → 0 ≤ indexB L (procsB L) L[i].t

theorem misF_none {L : List Tk} (i : Nat) (h : misF L i = none) : ∀ j, i ≤ j → (hj : j < L.length) → (isNameB L[j].t && !givenB L j && !rightB L j) = false := by
  induction hn : L.length - i using Nat.strongRecOn generalizing i with
  | ind n ih =>
    intro j hij hj
    have hi : i < L.length := by omega
    cases h2 : (isNameB L[i].t && !givenB L i && !rightB L i)
    · rw [misF_no hi h2] at h
      by_cases e : i = j
      · subst e; exact h2
      · exact ih (L.length - (i + 1)) (by omega) (i + 1) h rfl j (by omega) hj
    · rw [misF_yes hi h2] at h; cases h

theorem indexB_lt (L : List Tk) (l : List Nat) (t : ByteArray) : indexB L l t < l.length ∧ -1 ≤ indexB L l t := by
  unfold indexB
  cases h : l.findIdx? fun j => decide ((tk L j).t = t) with
  | none => exact ⟨by show (-1 : Int) < _; omega, by show (-1 : Int) ≤ -1; omega⟩
  | some k =>
    have := List.findIdx?_eq_some_iff_getElem.1 h
    obtain ⟨h1, _⟩ := this
    exact ⟨by show ((k : Nat) : Int) < _; omega, by show (-1 : Int) ≤ (k : Nat); omega⟩

end RR
