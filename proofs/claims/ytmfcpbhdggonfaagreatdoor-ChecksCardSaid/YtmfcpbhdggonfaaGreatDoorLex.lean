/- How a text is cut into tokens: plain functions. No Go here. -/
import Derived.Test.YtmfcpbhdggonfaaGreatDoorPure
namespace RR

/-- The end of a row of letters from k on. -/
def byteAt (s : ByteArray) (k : Nat) : UInt8 := if h : k < s.size then s[k] else 0
theorem byteAt_eq {s : ByteArray} {k : Nat} (h : k < s.size) : byteAt s k = s[k] := by unfold byteAt; rw [dif_pos h]
def runG (s : ByteArray) : Nat → Nat
  | 0 => s.size
  | d + 1 => if isLetterB (byteAt s (s.size - (d + 1))) then runG s d else s.size - (d + 1)
def runF (s : ByteArray) (k : Nat) : Nat := if k < s.size then runG s (s.size - k) else k
theorem runF_eq (s : ByteArray) (k : Nat) : runF s k = if h : k < s.size then if isLetterB s[k] then runF s (k + 1) else k else k := by
  unfold runF
  by_cases hk : k < s.size
  · have e : s.size - k = (s.size - (k + 1)) + 1 := by omega
    have e2 : s.size - ((s.size - (k + 1)) + 1) = k := by omega
    rw [if_pos hk, dif_pos hk, e, runG, e2, byteAt_eq hk]
    by_cases hk2 : k + 1 < s.size
    · rw [if_pos hk2]
    · rw [if_neg hk2, show s.size - (k + 1) = 0 by omega, show k + 1 = s.size by omega]; rfl
  · rw [if_neg hk, dif_neg hk]

theorem runF_le (s : ByteArray) (k : Nat) (h : k ≤ s.size) : k ≤ runF s k ∧ runF s k ≤ s.size := by
  induction hn : s.size - k using Nat.strongRecOn generalizing k with
  | ind n ih =>
    rw [runF_eq]
    by_cases h1 : k < s.size
    · rw [dif_pos h1]
      by_cases h2 : isLetterB s[k]
      · rw [if_pos h2]
        have := ih (s.size - (k + 1)) (by omega) (k + 1) (by omega) rfl
        omega
      · rw [if_neg h2]; omega
    · rw [dif_neg h1]; omega

def signs : List ByteArray := [⟨#[59]⟩, ⟨#[44]⟩, ⟨#[61]⟩, ⟨#[33]⟩, ⟨#[38]⟩, ⟨#[124]⟩, ⟨#[63]⟩, ⟨#[40]⟩, ⟨#[41]⟩, ⟨#[123]⟩, ⟨#[125]⟩]

/-- The end of the token that begins at i. -/
def endAt (s : ByteArray) (i : Nat) (h : i < s.size) : Nat := if isLetterB s[i] then runF s (i + 1) else i + 1

theorem endAt_gt (s : ByteArray) (i : Nat) (h : i < s.size) : i < endAt s i h ∧ endAt s i h ≤ s.size := by
  unfold endAt
  by_cases h2 : isLetterB s[i]
  · rw [if_pos h2]; have := runF_le s (i + 1) (by omega); omega
  · rw [if_neg h2]; omega

/-- Does a token begin at i? -/
def okAt (s : ByteArray) (i : Nat) (h : i < s.size) : Bool := (isLetterB s[i] && decide (endAt s i h - i ≤ 8)) || memB signs (s.extract i (endAt s i h))

def blankB (c : UInt8) : Bool := decide (c.toNat = 32) || decide (c.toNat = 10)

/-- The tokens from i on, or the place at which none begins. -/
def lexN (s : ByteArray) : Nat → Nat → List Tk × Option Nat
  | 0, _ => ([], none)
  | n + 1, i =>
    if h : i < s.size then
      if blankB s[i] then lexN s n (i + 1)
      else if okAt s i h then (⟨s.extract i (endAt s i h), i⟩ :: (lexN s n (endAt s i h)).1, (lexN s n (endAt s i h)).2)
      else ([], some i)
    else ([], none)
theorem lexN_fuel (s : ByteArray) : ∀ n m i, s.size - i ≤ n → s.size - i ≤ m → lexN s n i = lexN s m i := by
  intro n
  induction n with
  | zero =>
    intro m i h1 _
    cases m with
    | zero => rfl
    | succ m => rw [lexN, lexN, dif_neg (by omega)]
  | succ n ih =>
    intro m i h1 h2
    cases m with
    | zero => rw [lexN, lexN, dif_neg (by omega)]
    | succ m =>
      rw [lexN, lexN]
      by_cases h : i < s.size
      · have hg := endAt_gt s i h
        rw [dif_pos h, dif_pos h, ih m (i + 1) (by omega) (by omega), ih m (endAt s i h) (by omega) (by omega)]
      · rw [dif_neg h, dif_neg h]
def lexF (s : ByteArray) (i : Nat) : List Tk × Option Nat := lexN s (s.size - i) i
theorem lexF_eq (s : ByteArray) (i : Nat) : lexF s i = if h : i < s.size then
    if blankB s[i] then lexF s (i + 1)
    else if okAt s i h then (⟨s.extract i (endAt s i h), i⟩ :: (lexF s (endAt s i h)).1, (lexF s (endAt s i h)).2)
    else ([], some i)
  else ([], none) := by
  unfold lexF
  by_cases h : i < s.size
  · have hg := endAt_gt s i h
    have e : s.size - i = (s.size - i - 1) + 1 := by omega
    rw [dif_pos h, e, lexN, dif_pos h, lexN_fuel s (s.size - i - 1) (s.size - (i + 1)) (i + 1) (by omega) (by omega), lexN_fuel s (s.size - i - 1) (s.size - endAt s i h) (endAt s i h) (by omega) (by omega)]
  · rw [dif_neg h, show s.size - i = 0 by omega, lexN]

theorem lexF_out {s : ByteArray} {i : Nat} (h : ¬ i < s.size) : lexF s i = ([], none) := by rw [lexF_eq, dif_neg h]
theorem lexF_blank {s : ByteArray} {i : Nat} (h : i < s.size) (hb : blankB s[i] = true) : lexF s i = lexF s (i + 1) := by rw [lexF_eq, dif_pos h, if_pos hb]
theorem lexF_bad {s : ByteArray} {i : Nat} (h : i < s.size) (hb : blankB s[i] = false) (ho : okAt s i h = false) : lexF s i = ([], some i) := by rw [lexF_eq, dif_pos h, hb, ho]; rfl
theorem lexF_ok {s : ByteArray} {i : Nat} (h : i < s.size) (hb : blankB s[i] = false) (ho : okAt s i h = true) : lexF s i = (⟨s.extract i (endAt s i h), i⟩ :: (lexF s (endAt s i h)).1, (lexF s (endAt s i h)).2) := by
  rw [lexF_eq, dif_pos h, hb, ho]; rfl

theorem ext_size (s : ByteArray) (i k : Nat) (h : i ≤ k) (hk : k ≤ s.size) : (s.extract i k).size = k - i := by
  rw [ByteArray.size_extract]; omega
theorem ext_first (s : ByteArray) (i k : Nat) (h : i < k) (hk : k ≤ s.size) (h' : 0 < (s.extract i k).size) : (s.extract i k)[0] = s[i] := by
  rw [ByteArray.getElem_extract]; rfl

theorem runF_yes {s : ByteArray} {k : Nat} (h : k < s.size) (h2 : isLetterB s[k] = true) : runF s k = runF s (k + 1) := by rw [runF_eq, dif_pos h, if_pos h2]
theorem runF_no {s : ByteArray} {k : Nat} (h : k < s.size) (h2 : isLetterB s[k] = false) : runF s k = k := by rw [runF_eq, dif_pos h, h2]; rfl
theorem runF_out {s : ByteArray} {k : Nat} (h : ¬ k < s.size) : runF s k = k := by rw [runF_eq, dif_neg h]

theorem lexF_len (s : ByteArray) (i : Nat) : (lexF s i).1.length ≤ s.size - i := by
  induction hn : s.size - i using Nat.strongRecOn generalizing i with
  | ind n ih =>
    by_cases h : i < s.size
    · cases hb : blankB s[i]
      · cases ho : okAt s i h
        · rw [lexF_bad h hb ho]; exact Nat.zero_le _
        · rw [lexF_ok h hb ho]
          have := endAt_gt s i h
          have := ih (s.size - endAt s i h) (by omega) (endAt s i h) rfl
          show (_ :: _).length ≤ _
          rw [List.length_cons]; omega
      · rw [lexF_blank h hb]
        have := ih (s.size - (i + 1)) (by omega) (i + 1) rfl
        omega
    · rw [lexF_out h]; exact Nat.zero_le _

end RR
