/- More plain functions: is a name given, is it right. No Go here. -/
import Derived.Test.YtlpmkpjhdahfhaaGreatDoorPure2
namespace RR

def givenB (L : List Tk) (i : Nat) : Bool := hasB (ownersB L) i || (procsB L).any fun j => hasB (paramsB L j) i

def givenF (L : List Tk) (i : Nat) (l : List Nat) : Bool := l.any fun j => hasB (paramsB L j) i

/-- Is the name i, where it is used, what it must be? -/
def rightB (L : List Tk) (i : Nat) : Bool :=
  if isB L ((i : Int) - 1) ⟨#[97, 99, 113, 117, 105, 114, 101]⟩ || isB L ((i : Int) - 1) ⟨#[114, 101, 108, 101, 97, 115, 101]⟩ then decide (0 ≤ indexB L (wordB L ⟨#[108, 111, 99, 107, 115]⟩) (tk L i).t)
  else if hasB (wordB L ⟨#[116, 104, 114, 101, 97, 100, 115]⟩) i || isB L ((i : Int) + 1) ⟨#[40]⟩ then decide (0 ≤ indexB L (procsB L) (tk L i).t)
  else decide (0 ≤ indexB L (wordB L ⟨#[115, 104, 97, 114, 101, 100]⟩) (tk L i).t) || decide (0 ≤ indexB L (paramsB L (homeB L i)) (tk L i).t)

theorem homeB_le (L : List Tk) (i : Nat) : homeB L i ≤ i := by
  induction i with
  | zero => exact Nat.le_refl _
  | succ k ih => rw [homeB]; split <;> omega

theorem mateF_bd (L : List Tk) (st : Int) (d : Nat) (hd : d ≤ 500) (hL : L.length ≤ 500) : ∀ (f : Nat) (k n : Int), 0 ≤ mateF L st d f k n ∧ mateF L st d f k n ≤ 500 ∧ (mateF L st d f k n < L.length ∨ mateF L st d f k n = d) := by
  intro f
  induction f with
  | zero => intro k n; rw [mateF]; omega
  | succ f ih =>
    intro k n
    rw [mateF]
    by_cases h : 0 ≤ k ∧ k < L.length
    · rw [if_pos h]
      dsimp only
      generalize (if (tk L k.toNat).t = ⟨#[41]⟩ ∨ (tk L k.toNat).t = ⟨#[125]⟩ then (if (tk L k.toNat).t = ⟨#[40]⟩ ∨ (tk L k.toNat).t = ⟨#[123]⟩ then n + 1 else n) - 1 else if (tk L k.toNat).t = ⟨#[40]⟩ ∨ (tk L k.toNat).t = ⟨#[123]⟩ then n + 1 else n) = n2
      by_cases hz : n2 = 0
      · rw [if_pos hz]; omega
      · rw [if_neg hz]; exact ih _ _
    · rw [if_neg h]; omega

theorem mateB_bd (L : List Tk) (i : Nat) (hi : i ≤ 500) (hL : L.length ≤ 500) : 0 ≤ mateB L i ∧ mateB L i ≤ 500 ∧ (mateB L i < L.length ∨ mateB L i = i) := mateF_bd L _ i hi hL _ _ _

theorem isB_two {L : List Tk} {k : Nat} {a c : ByteArray} (h : isB L k a = true) (hne : a ≠ c) : isB L k c = false := by
  unfold isB at *
  simp only [Bool.and_eq_true, decide_eq_true_iff] at h
  rw [h.2, decide_eq_false hne, Bool.and_false]

theorem val_step (L : List Tk) (e : Int) (f k : Nat) (op n : Int) (h : (k : Int) < e) : ∃ d m : Int, valuesF L e (f + 1) k op n = valuesF L e f (k + 1) (op + d) (n + m) ∧
    ((isB L k ⟨#[40]⟩ = true ∧ isB L k ⟨#[41]⟩ = false ∧ isB L k ⟨#[44]⟩ = false ∧ d = 1 ∧ m = 0) ∨ (isB L k ⟨#[40]⟩ = false ∧ isB L k ⟨#[41]⟩ = true ∧ isB L k ⟨#[44]⟩ = false ∧ d = -1 ∧ m = 0) ∨
     (isB L k ⟨#[40]⟩ = false ∧ isB L k ⟨#[41]⟩ = false ∧ isB L k ⟨#[44]⟩ = true ∧ d = 0 ∧ op = 1 ∧ m = 1) ∨ (isB L k ⟨#[40]⟩ = false ∧ isB L k ⟨#[41]⟩ = false ∧ isB L k ⟨#[44]⟩ = true ∧ d = 0 ∧ op ≠ 1 ∧ m = 0) ∨
     (isB L k ⟨#[40]⟩ = false ∧ isB L k ⟨#[41]⟩ = false ∧ isB L k ⟨#[44]⟩ = false ∧ d = 0 ∧ m = 0)) := by
  rw [valuesF, if_pos h]
  dsimp only
  cases h1 : isB L k ⟨#[40]⟩
  · cases h2 : isB L k ⟨#[41]⟩
    · cases h3 : isB L k ⟨#[44]⟩
      · exact ⟨0, 0, by simp, by simp⟩
      · by_cases h4 : op = 1
        · subst h4; exact ⟨0, 1, by simp, by simp⟩
        · exact ⟨0, 0, by simp [h4], by simp [h4]⟩
    · have h3 := isB_two (c := ⟨#[44]⟩) h2 (by decide)
      exact ⟨-1, 0, by simp [h3, Int.sub_eq_add_neg], by simp [h3]⟩
  · have h2 := isB_two (c := ⟨#[41]⟩) h1 (by decide)
    have h3 := isB_two (c := ⟨#[44]⟩) h1 (by decide)
    exact ⟨1, 0, by simp [h2, h3], by simp [h2, h3]⟩

end RR
