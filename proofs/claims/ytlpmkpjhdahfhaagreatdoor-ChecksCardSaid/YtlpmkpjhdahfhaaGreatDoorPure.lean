/- The plain functions that the reference and the program are held against: bytes, tokens, lists. No Go here. -/
import Derived.Laws.Strings
namespace RR

def isLetterB (c : UInt8) : Bool := decide (97 ≤ c.toNat) && decide (c.toNat ≤ 122)

structure Tk where
  t : ByteArray
  p : Nat
  deriving Inhabited

theorem bl (b : ByteArray) : b.toList = b.data.toList := by
  exact Go.ByteArray.toList_eq b

theorem toList_inj {a b : ByteArray} : a.toList = b.toList ↔ a = b := by
  rw [bl, bl]
  constructor
  · intro h
    cases a; cases b; simp_all
  · intro h; rw [h]

theorem seq_comm (a b : ByteArray) : (a.toList == b.toList) = decide (a = b) := by
  rw [Bool.eq_iff_iff]; simp [toList_inj]

def kws : List ByteArray := [⟨#[115, 104, 97, 114, 101, 100]⟩, ⟨#[108, 111, 99, 107, 115]⟩, ⟨#[112, 114, 111, 99]⟩, ⟨#[116, 104, 114, 101, 97, 100, 115]⟩, ⟨#[105, 102]⟩, ⟨#[101, 108, 115, 101]⟩, ⟨#[119, 104, 105, 108, 101]⟩, ⟨#[97, 115, 115, 117, 109, 101]⟩, ⟨#[97, 99, 113, 117, 105, 114, 101]⟩, ⟨#[114, 101, 108, 101, 97, 115, 101]⟩, ⟨#[114, 101, 116, 117, 114, 110]⟩, ⟨#[115, 107, 105, 112]⟩, ⟨#[116, 114, 117, 101]⟩, ⟨#[102, 97, 108, 115, 101]⟩]

def memB (l : List ByteArray) (t : ByteArray) : Bool := l.any fun x => decide (x = t)

theorem memB_snoc (l : List ByteArray) (t : ByteArray) (k : Nat) (h : k < l.length) : memB (l.take (k + 1)) t = (memB (l.take k) t || (l[k].toList == t.toList)) := by
  rw [seq_comm, List.take_succ_eq_append_getElem h, memB, List.any_append]
  simp [memB]

theorem memB_get (l : List ByteArray) (k : Nat) (h : k < l.length) : memB l l[k] = true := by
  unfold memB; rw [List.any_eq_true]; exact ⟨l[k], List.getElem_mem _, decide_eq_true rfl⟩

def isNameB (t : ByteArray) : Bool := (match t.toList with | [] => false | c :: _ => isLetterB c) && !(memB kws t)

theorem len_toList (t : ByteArray) : t.toList.length = t.size := by rw [bl]; rfl
theorem empty_of {t : ByteArray} (h : t.size = 0) : t.toList = [] := List.length_eq_zero_iff.1 ((len_toList t).trans h)
theorem cons_list (l : List UInt8) (h : 0 < l.length) : l = l[0] :: l.tail := by
  cases l with
  | nil => exact absurd h (by decide)
  | cons c r => rfl
theorem cons_of {t : ByteArray} (h : 0 < t.size) : t.toList = t[0] :: t.toList.tail := by
  rw [bl]; exact cons_list _ h
theorem isName_empty {t : ByteArray} (h : t.size = 0) : isNameB t = false := by unfold isNameB; rw [empty_of h]; rfl
theorem isName_pos {t : ByteArray} (h : 0 < t.size) : isNameB t = (isLetterB t[0] && !(memB kws t)) := by
  unfold isNameB; rw [cons_of h]


def tk (L : List Tk) (i : Nat) : Tk := L[i]?.getD default
theorem tk_eq {L : List Tk} {i : Nat} (h : i < L.length) : tk L i = L[i] := by unfold tk; rw [List.getElem?_eq_getElem h]; rfl
def nth (l : List Nat) (i : Nat) : Nat := l[i]?.getD 0
theorem nth_eq {l : List Nat} {i : Nat} (h : i < l.length) : nth l i = l[i] := by unfold nth; rw [List.getElem?_eq_getElem h]; rfl

/-- The token i is that text. -/
def isB (L : List Tk) (i : Int) (t : ByteArray) : Bool := decide (0 ≤ i) && decide (i < L.length) && decide ((tk L i.toNat).t = t)

def leastB (a b : Int) : Int := if a < 0 ∨ (0 ≤ b ∧ b < a) then b else a

theorem isB_in {L : List Tk} {k : Nat} (h : k < L.length) (t : ByteArray) : isB L k t = (L[k].t.toList == t.toList) := by
  unfold isB
  rw [seq_comm, decide_eq_true (by omega), decide_eq_true (by omega), Int.toNat_natCast, tk_eq h]
  rfl
theorem isB_out {L : List Tk} {i : Int} (h : i < 0 ∨ (L.length : Int) ≤ i) (t : ByteArray) : isB L i t = false := by
  unfold isB
  rcases h with h | h
  · rw [decide_eq_false (by omega)]; rfl
  · rw [decide_eq_false (p := i < L.length) (by omega), Bool.and_false]; rfl

/-- Which of these tokens has that text. -/
def indexB (L : List Tk) (l : List Nat) (t : ByteArray) : Int :=
  match l.findIdx? fun j => decide ((tk L j).t = t) with
  | some i => i
  | none => -1

def hasB (l : List Nat) (i : Int) : Bool := l.any fun j => decide ((j : Int) = i)

theorem hasB_snoc (l : List Nat) (i : Int) (k : Nat) (h : k < l.length) : hasB (l.take (k + 1)) i = (hasB (l.take k) i || decide ((l[k] : Int) = i)) := by
  rw [List.take_succ_eq_append_getElem h, hasB, List.any_append]; simp [hasB]
theorem hasB_get (l : List Nat) (i : Int) (k : Nat) (h : k < l.length) (e : (l[k] : Int) = i) : hasB l i = true := by
  unfold hasB; rw [List.any_eq_true]; exact ⟨l[k], List.getElem_mem _, decide_eq_true e⟩

theorem indexB_get (L : List Tk) (l : List Nat) (t : ByteArray) (k : Nat) (h : k < l.length) (hn : ∀ j, (hj : j < k) → ((tk L (l[j]'(by omega))).t = t) = False) (e : (tk L l[k]).t = t) : indexB L l t = k := by
  have : l.findIdx? (fun j => decide ((tk L j).t = t)) = some k := by
    rw [List.findIdx?_eq_some_iff_getElem]
    exact ⟨h, decide_eq_true e, fun j hj => by simp [hn j hj]⟩
  unfold indexB; rw [this]
theorem indexB_none (L : List Tk) (l : List Nat) (t : ByteArray) (hn : ∀ j, (hj : j < l.length) → ((tk L l[j]).t = t) = False) : indexB L l t = -1 := by
  have : l.findIdx? (fun j => decide ((tk L j).t = t)) = none := by
    rw [List.findIdx?_eq_none_iff]
    intro x hx
    obtain ⟨j, hj, rfl⟩ := List.getElem_of_mem hx
    exact decide_eq_false (by rw [hn j hj]; exact not_false)
  unfold indexB; rw [this]

def pastB (L : List Tk) (l : List Nat) (most : Nat) : Int := if most < l.length then ((tk L (nth l most)).p : Int) else -1

def kProc : ByteArray := ⟨#[112, 114, 111, 99]⟩

/-- The name's token of the procedure in which the token i stands. -/
def homeB (L : List Tk) : Nat → Nat
  | 0 => 0
  | k + 1 => if isB L k kProc then k + 1 else homeB L k

def sComma : ByteArray := ⟨#[44]⟩

/-- The names from the token k on, with commas between them. -/
def namesF (L : List Tk) (k : Nat) : List Nat :=
  if k < L.length then
    if isNameB (tk L k).t then k :: (if isB L (k + 1 : Nat) ⟨#[44]⟩ then namesF L (k + 2) else []) else []
  else []
termination_by L.length - k
decreasing_by omega

def ints (l : List Nat) : List Go.Value := l.map fun (n : Nat) => .int .i64 n
theorem ints_append (a b : List Nat) : ints (a ++ b) = ints a ++ ints b := List.map_append
theorem ints_length (a : List Nat) : (ints a).length = a.length := List.length_map _

theorem namesF_lt (L : List Tk) (k : Nat) : ∀ j ∈ namesF L k, k ≤ j ∧ j < L.length := by
  induction h : L.length - k using Nat.strongRecOn generalizing k with
  | ind n ih =>
    intro j hj
    rw [namesF] at hj
    by_cases h1 : k < L.length
    · rw [if_pos h1] at hj
      by_cases h2 : isNameB (tk L k).t
      · rw [if_pos h2] at hj
        rcases List.mem_cons.1 hj with rfl | hj
        · exact ⟨Nat.le_refl _, h1⟩
        · by_cases h3 : isB L (k + 1 : Nat) ⟨#[44]⟩
          · rw [if_pos h3] at hj
            have := ih (L.length - (k + 2)) (by omega) (k + 2) rfl j hj
            exact ⟨by omega, this.2⟩
          · rw [if_neg h3] at hj; cases hj
      · rw [if_neg h2] at hj; cases hj
    · rw [if_neg h1] at hj; cases hj

theorem namesF_len (L : List Tk) (k : Nat) : (namesF L k).length ≤ L.length - k := by
  induction h : L.length - k using Nat.strongRecOn generalizing k with
  | ind n ih =>
    rw [namesF]
    by_cases h1 : k < L.length
    · rw [if_pos h1]
      by_cases h2 : isNameB (tk L k).t
      · rw [if_pos h2]
        by_cases h3 : isB L (k + 1 : Nat) ⟨#[44]⟩
        · rw [if_pos h3]
          have := ih (L.length - (k + 2)) (by omega) (k + 2) rfl
          rw [List.length_cons]; omega
        · rw [if_neg h3, List.length_cons, List.length_nil]; omega
      · rw [if_neg h2]; exact Nat.zero_le _
    · rw [if_neg h1]; exact Nat.zero_le _

/-- Of a bracket or brace the one that belongs to it: forward or backward from k, n of them open. -/
def mateF (L : List Tk) (st : Int) (d : Int) : Nat → Int → Int → Int
  | 0, _, _ => d
  | f + 1, k, n =>
    if 0 ≤ k ∧ k < L.length then
      let t := (tk L k.toNat).t
      let n1 := if t = ⟨#[40]⟩ ∨ t = ⟨#[123]⟩ then n + 1 else n
      let n2 := if t = ⟨#[41]⟩ ∨ t = ⟨#[125]⟩ then n1 - 1 else n1
      if n2 = 0 then k else mateF L st d f (k + st) n2
    else d

/-- The names behind the first token with that text, from k on. -/
def wordF (L : List Tk) (t : ByteArray) (k : Nat) : List Nat :=
  if k < L.length then if isB L k t then namesF L (k + 1) else wordF L t (k + 1) else []
termination_by L.length - k
decreasing_by omega

/-- The names of procedures where these stand, from k on. -/
def procsF (L : List Tk) (k : Nat) : List Nat :=
  if k < L.length then if isB L k ⟨#[112, 114, 111, 99]⟩ then (k + 1) :: procsF L (k + 1) else procsF L (k + 1) else []
termination_by L.length - k
decreasing_by all_goals omega

def wordB (L : List Tk) (t : ByteArray) : List Nat := wordF L t 0
def procsB (L : List Tk) : List Nat := procsF L 0
def paramsB (L : List Tk) (i : Nat) : List Nat := namesF L (i + 2)
def kShared : ByteArray := ⟨#[115, 104, 97, 114, 101, 100]⟩
def kLocks : ByteArray := ⟨#[108, 111, 99, 107, 115]⟩
def kThreads : ByteArray := ⟨#[116, 104, 114, 101, 97, 100, 115]⟩
def ownersB (L : List Tk) : List Nat := wordB L kShared ++ wordB L kLocks ++ procsB L

theorem wordF_lt (L : List Tk) (t : ByteArray) (k : Nat) : ∀ j ∈ wordF L t k, j < L.length := by
  induction h : L.length - k using Nat.strongRecOn generalizing k with
  | ind n ih =>
    intro j hj
    rw [wordF] at hj
    by_cases h1 : k < L.length
    · rw [if_pos h1] at hj
      by_cases h2 : isB L k t
      · rw [if_pos h2] at hj; exact (namesF_lt L (k + 1) j hj).2
      · rw [if_neg h2] at hj; exact ih (L.length - (k + 1)) (by omega) (k + 1) rfl j hj
    · rw [if_neg h1] at hj; cases hj
theorem wordF_len (L : List Tk) (t : ByteArray) (k : Nat) : (wordF L t k).length ≤ L.length := by
  induction h : L.length - k using Nat.strongRecOn generalizing k with
  | ind n ih =>
    rw [wordF]
    by_cases h1 : k < L.length
    · rw [if_pos h1]
      by_cases h2 : isB L k t
      · rw [if_pos h2]; have := namesF_len L (k + 1); omega
      · rw [if_neg h2]; exact ih (L.length - (k + 1)) (by omega) (k + 1) rfl
    · rw [if_neg h1]; exact Nat.zero_le _

/-- Behind each proc there is a token. -/
def ProcOk (L : List Tk) : Prop := ∀ k : Nat, isB L k ⟨#[112, 114, 111, 99]⟩ = true → k + 1 < L.length

theorem procsF_lt {L : List Tk} (hp : ProcOk L) (k : Nat) : ∀ j ∈ procsF L k, j < L.length := by
  induction h : L.length - k using Nat.strongRecOn generalizing k with
  | ind n ih =>
    intro j hj
    rw [procsF] at hj
    by_cases h1 : k < L.length
    · rw [if_pos h1] at hj
      by_cases h2 : isB L k ⟨#[112, 114, 111, 99]⟩
      · rw [if_pos h2] at hj
        rcases List.mem_cons.1 hj with rfl | hj
        · exact hp k h2
        · exact ih (L.length - (k + 1)) (by omega) (k + 1) rfl j hj
      · rw [if_neg h2] at hj; exact ih (L.length - (k + 1)) (by omega) (k + 1) rfl j hj
    · rw [if_neg h1] at hj; cases hj
theorem procsF_len (L : List Tk) (k : Nat) : (procsF L k).length ≤ L.length - k := by
  induction h : L.length - k using Nat.strongRecOn generalizing k with
  | ind n ih =>
    rw [procsF]
    by_cases h1 : k < L.length
    · rw [if_pos h1]
      have := ih (L.length - (k + 1)) (by omega) (k + 1) rfl
      by_cases h2 : isB L k ⟨#[112, 114, 111, 99]⟩
      · rw [if_pos h2, List.length_cons]; omega
      · rw [if_neg h2]; omega
    · rw [if_neg h1]; exact Nat.zero_le _

/-- How many values stand behind k, up to the end, so many brackets open. -/
def valuesF (L : List Tk) (e : Int) : Nat → Nat → Int → Int → Int
  | 0, _, _, n => n
  | f + 1, k, op, n =>
    if (k : Int) < e then
      let op1 := if isB L k ⟨#[40]⟩ then op + 1 else op
      let op2 := if isB L k ⟨#[41]⟩ then op1 - 1 else op1
      let n1 := if isB L k ⟨#[44]⟩ && decide (op2 = 1) then n + 1 else n
      valuesF L e f (k + 1) op2 n1
    else n

def mateB (L : List Tk) (i : Nat) : Int := mateF L (if isB L i ⟨#[41]⟩ || isB L i ⟨#[125]⟩ then -1 else 1) i (L.length + 1) i 0
def valuesB (L : List Tk) (i : Nat) : Int := if mateB L i = i + 1 then 0 else valuesF L (mateB L i) (L.length + 1) i 0 1

end RR
