/- How a text is cut into tokens: plain functions. No Go here. -/
import Derived.Test.YtlpmkpjhdahfhaaGreatDoorPure
namespace RR

/-- The end of a row of letters from k on. -/
def runF (s : ByteArray) (k : Nat) : Nat :=
  if h : k < s.size then if isLetterB s[k] then runF s (k + 1) else k else k
termination_by s.size - k
decreasing_by omega

theorem runF_le (s : ByteArray) (k : Nat) (h : k ≤ s.size) : k ≤ runF s k ∧ runF s k ≤ s.size := by
  induction hn : s.size - k using Nat.strongRecOn generalizing k with
  | ind n ih =>
    rw [runF]
    by_cases h1 : k < s.size
    · rw [dif_pos h1]
      by_cases h2 : isLetterB s[k]
      · rw [if_pos h2]
        have := ih (s.size - (k + 1)) (by omega) (k + 1) (by omega) rfl
        omega
      · rw [if_neg h2]; omega
    · rw [dif_neg h1]; omega

def signs : List ByteArray := [⟨#[59]⟩, ⟨#[44]⟩, ⟨#[61]⟩, ⟨#[33]⟩, ⟨#[38]⟩, ⟨#[124]⟩, ⟨#[63]⟩, ⟨#[40]⟩, ⟨#[41]⟩, ⟨#[123]⟩, ⟨#[125]⟩]

/-- The end of the token that begins at i. -/
def endAt (s : ByteArray) (i : Nat) (h : i < s.size) : Nat := if isLetterB s[i] then runF s (i + 1) else i + 1

theorem endAt_gt (s : ByteArray) (i : Nat) (h : i < s.size) : i < endAt s i h ∧ endAt s i h ≤ s.size := by
  unfold endAt
  by_cases h2 : isLetterB s[i]
  · rw [if_pos h2]; have := runF_le s (i + 1) (by omega); omega
  · rw [if_neg h2]; omega

/-- Does a token begin at i? -/
def okAt (s : ByteArray) (i : Nat) (h : i < s.size) : Bool := (isLetterB s[i] && decide (endAt s i h - i ≤ 8)) || memB signs (s.extract i (endAt s i h))

def blankB (c : UInt8) : Bool := decide (c.toNat = 32) || decide (c.toNat = 10)

/-- The tokens from i on, or the place at which none begins. -/
def lexF (s : ByteArray) (i : Nat) : List Tk × Option Nat :=
  if h : i < s.size then
    if blankB s[i] then lexF s (i + 1)
    else if okAt s i h then (⟨s.extract i (endAt s i h), i⟩ :: (lexF s (endAt s i h)).1, (lexF s (endAt s i h)).2)
    else ([], some i)
  else ([], none)
termination_by s.size - i
decreasing_by
  all_goals (have := endAt_gt s i h; omega)

theorem lexF_out {s : ByteArray} {i : Nat} (h : ¬ i < s.size) : lexF s i = ([], none) := by rw [lexF, dif_neg h]
theorem lexF_blank {s : ByteArray} {i : Nat} (h : i < s.size) (hb : blankB s[i] = true) : lexF s i = lexF s (i + 1) := by rw [lexF, dif_pos h, if_pos hb]
theorem lexF_bad {s : ByteArray} {i : Nat} (h : i < s.size) (hb : blankB s[i] = false) (ho : okAt s i h = false) : lexF s i = ([], some i) := by rw [lexF, dif_pos h, hb, ho]; rfl
theorem lexF_ok {s : ByteArray} {i : Nat} (h : i < s.size) (hb : blankB s[i] = false) (ho : okAt s i h = true) : lexF s i = (⟨s.extract i (endAt s i h), i⟩ :: (lexF s (endAt s i h)).1, (lexF s (endAt s i h)).2) := by
  rw [lexF, dif_pos h, hb, ho]; rfl

theorem ext_size (s : ByteArray) (i k : Nat) (h : i ≤ k) (hk : k ≤ s.size) : (s.extract i k).size = k - i := by
  rw [ByteArray.size_extract]; omega
theorem ext_first (s : ByteArray) (i k : Nat) (h : i < k) (hk : k ≤ s.size) (h' : 0 < (s.extract i k).size) : (s.extract i k)[0] = s[i] := by
  rw [ByteArray.getElem_extract]; rfl

theorem runF_yes {s : ByteArray} {k : Nat} (h : k < s.size) (h2 : isLetterB s[k] = true) : runF s k = runF s (k + 1) := by rw [runF, dif_pos h, if_pos h2]
theorem runF_no {s : ByteArray} {k : Nat} (h : k < s.size) (h2 : isLetterB s[k] = false) : runF s k = k := by rw [runF, dif_pos h, h2]; rfl
theorem runF_out {s : ByteArray} {k : Nat} (h : ¬ k < s.size) : runF s k = k := by rw [runF, dif_neg h]

theorem lexF_len (s : ByteArray) (i : Nat) : (lexF s i).1.length ≤ s.size - i := by
  induction hn : s.size - i using Nat.strongRecOn generalizing i with
  | ind n ih =>
    by_cases h : i < s.size
    · cases hb : blankB s[i]
      · cases ho : okAt s i h
        · rw [lexF_bad h hb ho]; exact Nat.zero_le _
        · rw [lexF_ok h hb ho]
          have := endAt_gt s i h
          have := ih (s.size - endAt s i h) (by omega) (endAt s i h) rfl
          show (_ :: _).length ≤ _
          rw [List.length_cons]; omega
      · rw [lexF_blank h hb]
        have := ih (s.size - (i + 1)) (by omega) (i + 1) rfl
        omega
    · rw [lexF_out h]; exact Nat.zero_le _

end RR
