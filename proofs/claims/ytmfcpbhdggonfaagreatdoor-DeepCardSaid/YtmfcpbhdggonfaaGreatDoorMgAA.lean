/- Small words that all texts use. -/
import Derived.Test.YtmfcpbhdggonfaaGreatDoorRows
import Derived.WalkKit
import Derived.WalkSpells
import Derived.WalkLawsBesides
import Derived.Laws.Strings
import Derived.Deep.QuietTactic
import Derived.BigQuiet
namespace Go.Proofs.YtmfcpbhdggonfaaGreatDoor
open Go.RowKit

theorem ret_bool {a b : Bool} (h : a = b) : Ending.returned (.bool a) = .returned (.bool b) := by rw [h]
theorem ret_int {k : IntKind} {a b : Int} (h : a = b) : Ending.returned (.int k a) = .returned (.int k b) := by rw [h]
theorem hide {p : Prop} (h : p) : Hid p := h
theorem bcell {W w1 : World} (hb : Below W.heap.size W w1) : (∀ b o, b < W.heap.size → w1.cell? ⟨b, o, none⟩ = W.cell? ⟨b, o, none⟩) ∧ (∀ b o, b < W.heap.size → w1.frozen? ⟨b, o, none⟩ = W.frozen? ⟨b, o, none⟩) :=
  ⟨fun b o h => hb.cell (p := ⟨b, o, none⟩) h, fun b o h => hb.frozen (p := ⟨b, o, none⟩) h⟩

end Go.Proofs.YtmfcpbhdggonfaaGreatDoor

/- The plain functions that the reference and the program are held against: bytes, tokens, lists. No Go here. -/
namespace RR

def isLetterB (c : UInt8) : Bool := decide (97 ≤ c.toNat) && decide (c.toNat ≤ 122)

structure Tk where
  t : ByteArray
  p : Nat

theorem bl (b : ByteArray) : b.toList = b.data.toList := by
  exact Go.ByteArray.toList_eq b

theorem toList_inj {a b : ByteArray} : a.toList = b.toList ↔ a = b := by
  rw [bl, bl]
  constructor
  · intro h
    cases a; cases b; simp_all
  · intro h; rw [h]

theorem seq_comm (a b : ByteArray) : (a.toList == b.toList) = decide (a = b) := by
  rw [Bool.eq_iff_iff]; simp [toList_inj]

def kws : List ByteArray := [⟨#[115, 104, 97, 114, 101, 100]⟩, ⟨#[108, 111, 99, 107, 115]⟩, ⟨#[112, 114, 111, 99]⟩, ⟨#[116, 104, 114, 101, 97, 100, 115]⟩, ⟨#[105, 102]⟩, ⟨#[101, 108, 115, 101]⟩, ⟨#[119, 104, 105, 108, 101]⟩, ⟨#[97, 115, 115, 117, 109, 101]⟩, ⟨#[97, 99, 113, 117, 105, 114, 101]⟩, ⟨#[114, 101, 108, 101, 97, 115, 101]⟩, ⟨#[114, 101, 116, 117, 114, 110]⟩, ⟨#[115, 107, 105, 112]⟩, ⟨#[116, 114, 117, 101]⟩, ⟨#[102, 97, 108, 115, 101]⟩]

def memB (l : List ByteArray) (t : ByteArray) : Bool := l.any fun x => decide (x = t)

theorem memB_snoc (l : List ByteArray) (t : ByteArray) (k : Nat) (h : k < l.length) : memB (l.take (k + 1)) t = (memB (l.take k) t || (l[k].toList == t.toList)) := by
  rw [seq_comm, List.take_succ_eq_append_getElem h, memB, List.any_append]
  simp [memB]

theorem memB_get (l : List ByteArray) (k : Nat) (h : k < l.length) : memB l l[k] = true := by
  unfold memB; rw [List.any_eq_true]; exact ⟨l[k], List.getElem_mem _, decide_eq_true rfl⟩

def isNameB (t : ByteArray) : Bool := (match t.toList with | [] => false | c :: _ => isLetterB c) && !(memB kws t)

theorem len_toList (t : ByteArray) : t.toList.length = t.size := by rw [bl]; rfl
theorem empty_of {t : ByteArray} (h : t.size = 0) : t.toList = [] := List.length_eq_zero_iff.1 ((len_toList t).trans h)
theorem cons_list (l : List UInt8) (h : 0 < l.length) : l = l[0] :: l.tail := by
  cases l with
  | nil => exact absurd h (by decide)
  | cons c r => rfl
theorem cons_of {t : ByteArray} (h : 0 < t.size) : t.toList = t[0] :: t.toList.tail := by
  rw [bl]; exact cons_list _ h
theorem isName_empty {t : ByteArray} (h : t.size = 0) : isNameB t = false := by unfold isNameB; rw [empty_of h]; rfl
theorem isName_pos {t : ByteArray} (h : 0 < t.size) : isNameB t = (isLetterB t[0] && !(memB kws t)) := by
  unfold isNameB; rw [cons_of h]


def tk (L : List Tk) (i : Nat) : Tk := L[i]?.getD ⟨⟨#[]⟩, 0⟩
theorem tk_eq {L : List Tk} {i : Nat} (h : i < L.length) : tk L i = L[i] := by unfold tk; rw [List.getElem?_eq_getElem h]; rfl
def nth (l : List Nat) (i : Nat) : Nat := l[i]?.getD 0
theorem nth_eq {l : List Nat} {i : Nat} (h : i < l.length) : nth l i = l[i] := by unfold nth; rw [List.getElem?_eq_getElem h]; rfl

/-- The token i is that text. -/
def isB (L : List Tk) (i : Int) (t : ByteArray) : Bool := decide (0 ≤ i) && decide (i < L.length) && decide ((tk L i.toNat).t = t)

def leastB (a b : Int) : Int := if a < 0 ∨ (0 ≤ b ∧ b < a) then b else a

theorem isB_in {L : List Tk} {k : Nat} (h : k < L.length) (t : ByteArray) : isB L k t = (L[k].t.toList == t.toList) := by
  unfold isB
  rw [seq_comm, decide_eq_true (by omega), decide_eq_true (by omega), Int.toNat_natCast, tk_eq h]
  rfl
theorem isB_out {L : List Tk} {i : Int} (h : i < 0 ∨ (L.length : Int) ≤ i) (t : ByteArray) : isB L i t = false := by
  unfold isB
  rcases h with h | h
  · rw [decide_eq_false (by omega)]; rfl
  · rw [decide_eq_false (p := i < L.length) (by omega), Bool.and_false]; rfl

/-- Which of these tokens has that text. -/
def indexB (L : List Tk) (l : List Nat) (t : ByteArray) : Int :=
  match l.findIdx? fun j => decide ((tk L j).t = t) with
  | some i => i
  | none => -1

def hasB (l : List Nat) (i : Int) : Bool := l.any fun j => decide ((j : Int) = i)

theorem hasB_snoc (l : List Nat) (i : Int) (k : Nat) (h : k < l.length) : hasB (l.take (k + 1)) i = (hasB (l.take k) i || decide ((l[k] : Int) = i)) := by
  rw [List.take_succ_eq_append_getElem h, hasB, List.any_append]; simp [hasB]
theorem hasB_get (l : List Nat) (i : Int) (k : Nat) (h : k < l.length) (e : (l[k] : Int) = i) : hasB l i = true := by
  unfold hasB; rw [List.any_eq_true]; exact ⟨l[k], List.getElem_mem _, decide_eq_true e⟩

theorem indexB_get (L : List Tk) (l : List Nat) (t : ByteArray) (k : Nat) (h : k < l.length) (hn : ∀ j, (hj : j < k) → ((tk L (l[j]'(by omega))).t = t) = False) (e : (tk L l[k]).t = t) : indexB L l t = k := by
  have : l.findIdx? (fun j => decide ((tk L j).t = t)) = some k := by
    rw [List.findIdx?_eq_some_iff_getElem]
    exact ⟨h, decide_eq_true e, fun j hj => by simp [hn j hj]⟩
  unfold indexB; rw [this]
theorem indexB_none (L : List Tk) (l : List Nat) (t : ByteArray) (hn : ∀ j, (hj : j < l.length) → ((tk L l[j]).t = t) = False) : indexB L l t = -1 := by
  have : l.findIdx? (fun j => decide ((tk L j).t = t)) = none := by
    rw [List.findIdx?_eq_none_iff]
    intro x hx
    obtain ⟨j, hj, rfl⟩ := List.getElem_of_mem hx
    exact decide_eq_false (by rw [hn j hj]; exact not_false)
  unfold indexB; rw [this]

def pastB (L : List Tk) (l : List Nat) (most : Nat) : Int := if most < l.length then ((tk L (nth l most)).p : Int) else -1

def kProc : ByteArray := ⟨#[112, 114, 111, 99]⟩

/-- The name's token of the procedure in which the token i stands. -/
def homeB (L : List Tk) : Nat → Nat
  | 0 => 0
  | k + 1 => if isB L k kProc then k + 1 else homeB L k

def sComma : ByteArray := ⟨#[44]⟩

/-- The names from the token k on, with commas between them. -/
def namesG (L : List Tk) : Nat → List Nat
  | 0 => []
  | 1 => if isNameB (tk L (L.length - 1)).t then [L.length - 1] else []
  | d + 2 => if isNameB (tk L (L.length - (d + 2))).t then (L.length - (d + 2)) :: (if isB L (L.length - (d + 2) + 1 : Nat) ⟨#[44]⟩ then namesG L d else []) else []
def namesF (L : List Tk) (k : Nat) : List Nat := namesG L (L.length - k)
theorem namesF_eq (L : List Tk) (k : Nat) : namesF L k = if k < L.length then if isNameB (tk L k).t then k :: (if isB L (k + 1 : Nat) ⟨#[44]⟩ then namesF L (k + 2) else []) else [] else [] := by
  unfold namesF
  by_cases hk : k < L.length
  · rw [if_pos hk]
    obtain ⟨d, hd⟩ : ∃ d, L.length - k = d + 1 := ⟨L.length - k - 1, by omega⟩
    cases d with
    | zero =>
      have e : L.length - 1 = k := by omega
      rw [hd, isB_out (by omega)]
      show (if isNameB (tk L (L.length - 1)).t then [L.length - 1] else []) = _
      rw [e]; rfl
    | succ d =>
      have e : L.length - (d + 2) = k := by omega
      have e2 : L.length - (k + 2) = d := by omega
      rw [hd, e2]
      show (if isNameB (tk L (L.length - (d + 2))).t then (L.length - (d + 2)) :: (if isB L (L.length - (d + 2) + 1 : Nat) ⟨#[44]⟩ then namesG L d else []) else []) = _
      rw [e]
  · rw [if_neg hk, show L.length - k = 0 by omega]; rfl

def ints (l : List Nat) : List Go.Value := l.map fun (n : Nat) => .int .i64 n
theorem ints_append (a b : List Nat) : ints (a ++ b) = ints a ++ ints b := List.map_append
theorem ints_length (a : List Nat) : (ints a).length = a.length := List.length_map _

theorem namesF_lt (L : List Tk) (k : Nat) : ∀ j ∈ namesF L k, k ≤ j ∧ j < L.length := by
  induction h : L.length - k using Nat.strongRecOn generalizing k with
  | ind n ih =>
    intro j hj
    rw [namesF_eq] at hj
    by_cases h1 : k < L.length
    · rw [if_pos h1] at hj
      by_cases h2 : isNameB (tk L k).t
      · rw [if_pos h2] at hj
        rcases List.mem_cons.1 hj with rfl | hj
        · exact ⟨Nat.le_refl _, h1⟩
        · by_cases h3 : isB L (k + 1 : Nat) ⟨#[44]⟩
          · rw [if_pos h3] at hj
            have := ih (L.length - (k + 2)) (by omega) (k + 2) rfl j hj
            exact ⟨by omega, this.2⟩
          · rw [if_neg h3] at hj; cases hj
      · rw [if_neg h2] at hj; cases hj
    · rw [if_neg h1] at hj; cases hj

theorem namesF_len (L : List Tk) (k : Nat) : (namesF L k).length ≤ L.length - k := by
  induction h : L.length - k using Nat.strongRecOn generalizing k with
  | ind n ih =>
    rw [namesF_eq]
    by_cases h1 : k < L.length
    · rw [if_pos h1]
      by_cases h2 : isNameB (tk L k).t
      · rw [if_pos h2]
        by_cases h3 : isB L (k + 1 : Nat) ⟨#[44]⟩
        · rw [if_pos h3]
          have := ih (L.length - (k + 2)) (by omega) (k + 2) rfl
          rw [List.length_cons]; omega
        · rw [if_neg h3, List.length_cons, List.length_nil]; omega
      · rw [if_neg h2]; exact Nat.zero_le _
    · rw [if_neg h1]; exact Nat.zero_le _

/-- Of a bracket or brace the one that belongs to it: forward or backward from k, n of them open. -/
def mateF (L : List Tk) (st : Int) (d : Int) : Nat → Int → Int → Int
  | 0, _, _ => d
  | f + 1, k, n =>
    if 0 ≤ k ∧ k < L.length then
      let t := (tk L k.toNat).t
      let n1 := if t = ⟨#[40]⟩ ∨ t = ⟨#[123]⟩ then n + 1 else n
      let n2 := if t = ⟨#[41]⟩ ∨ t = ⟨#[125]⟩ then n1 - 1 else n1
      if n2 = 0 then k else mateF L st d f (k + st) n2
    else d

/-- The names behind the first token with that text, from k on. -/
def wordG (L : List Tk) (t : ByteArray) : Nat → List Nat
  | 0 => []
  | d + 1 => if isB L (L.length - (d + 1) : Nat) t then namesF L (L.length - (d + 1) + 1) else wordG L t d
def wordF (L : List Tk) (t : ByteArray) (k : Nat) : List Nat := wordG L t (L.length - k)
theorem wordF_eq (L : List Tk) (t : ByteArray) (k : Nat) : wordF L t k = if k < L.length then if isB L k t then namesF L (k + 1) else wordF L t (k + 1) else [] := by
  unfold wordF
  by_cases hk : k < L.length
  · have e : L.length - k = (L.length - (k + 1)) + 1 := by omega
    have e2 : L.length - ((L.length - (k + 1)) + 1) = k := by omega
    rw [if_pos hk, e, wordG, e2]
  · rw [if_neg hk, show L.length - k = 0 by omega]; rfl

/-- The names of procedures where these stand, from k on. -/
def procsG (L : List Tk) : Nat → List Nat
  | 0 => []
  | d + 1 => if isB L (L.length - (d + 1) : Nat) ⟨#[112, 114, 111, 99]⟩ then (L.length - (d + 1) + 1) :: procsG L d else procsG L d
def procsF (L : List Tk) (k : Nat) : List Nat := procsG L (L.length - k)
theorem procsF_eq (L : List Tk) (k : Nat) : procsF L k = if k < L.length then if isB L k ⟨#[112, 114, 111, 99]⟩ then (k + 1) :: procsF L (k + 1) else procsF L (k + 1) else [] := by
  unfold procsF
  by_cases hk : k < L.length
  · have e : L.length - k = (L.length - (k + 1)) + 1 := by omega
    have e2 : L.length - ((L.length - (k + 1)) + 1) = k := by omega
    rw [if_pos hk, e, procsG, e2]
  · rw [if_neg hk, show L.length - k = 0 by omega]; rfl

def wordB (L : List Tk) (t : ByteArray) : List Nat := wordF L t 0
def procsB (L : List Tk) : List Nat := procsF L 0
def paramsB (L : List Tk) (i : Nat) : List Nat := namesF L (i + 2)
def kShared : ByteArray := ⟨#[115, 104, 97, 114, 101, 100]⟩
def kLocks : ByteArray := ⟨#[108, 111, 99, 107, 115]⟩
def kThreads : ByteArray := ⟨#[116, 104, 114, 101, 97, 100, 115]⟩
def ownersB (L : List Tk) : List Nat := wordB L kShared ++ wordB L kLocks ++ procsB L

theorem wordF_lt (L : List Tk) (t : ByteArray) (k : Nat) : ∀ j ∈ wordF L t k, j < L.length := by
  induction h : L.length - k using Nat.strongRecOn generalizing k with
  | ind n ih =>
    intro j hj
    rw [wordF_eq] at hj
    by_cases h1 : k < L.length
    · rw [if_pos h1] at hj
      by_cases h2 : isB L k t
      · rw [if_pos h2] at hj; exact (namesF_lt L (k + 1) j hj).2
      · rw [if_neg h2] at hj; exact ih (L.length - (k + 1)) (by omega) (k + 1) rfl j hj
    · rw [if_neg h1] at hj; cases hj
theorem wordF_len (L : List Tk) (t : ByteArray) (k : Nat) : (wordF L t k).length ≤ L.length := by
  induction h : L.length - k using Nat.strongRecOn generalizing k with
  | ind n ih =>
    rw [wordF_eq]
    by_cases h1 : k < L.length
    · rw [if_pos h1]
      by_cases h2 : isB L k t
      · rw [if_pos h2]; have := namesF_len L (k + 1); omega
      · rw [if_neg h2]; exact ih (L.length - (k + 1)) (by omega) (k + 1) rfl
    · rw [if_neg h1]; exact Nat.zero_le _

/-- Behind each proc there is a token. -/
def ProcOk (L : List Tk) : Prop := ∀ k : Nat, isB L k ⟨#[112, 114, 111, 99]⟩ = true → k + 1 < L.length

theorem procsF_lt {L : List Tk} (hp : ProcOk L) (k : Nat) : ∀ j ∈ procsF L k, j < L.length := by
  induction h : L.length - k using Nat.strongRecOn generalizing k with
  | ind n ih =>
    intro j hj
    rw [procsF_eq] at hj
    by_cases h1 : k < L.length
    · rw [if_pos h1] at hj
      by_cases h2 : isB L k ⟨#[112, 114, 111, 99]⟩
      · rw [if_pos h2] at hj
        rcases List.mem_cons.1 hj with rfl | hj
        · exact hp k h2
        · exact ih (L.length - (k + 1)) (by omega) (k + 1) rfl j hj
      · rw [if_neg h2] at hj; exact ih (L.length - (k + 1)) (by omega) (k + 1) rfl j hj
    · rw [if_neg h1] at hj; cases hj
theorem procsF_len (L : List Tk) (k : Nat) : (procsF L k).length ≤ L.length - k := by
  induction h : L.length - k using Nat.strongRecOn generalizing k with
  | ind n ih =>
    rw [procsF_eq]
    by_cases h1 : k < L.length
    · rw [if_pos h1]
      have := ih (L.length - (k + 1)) (by omega) (k + 1) rfl
      by_cases h2 : isB L k ⟨#[112, 114, 111, 99]⟩
      · rw [if_pos h2, List.length_cons]; omega
      · rw [if_neg h2]; omega
    · rw [if_neg h1]; exact Nat.zero_le _

/-- How many values stand behind k, up to the end, so many brackets open. -/
def valuesF (L : List Tk) (e : Int) : Nat → Nat → Int → Int → Int
  | 0, _, _, n => n
  | f + 1, k, op, n =>
    if (k : Int) < e then
      let op1 := if isB L k ⟨#[40]⟩ then op + 1 else op
      let op2 := if isB L k ⟨#[41]⟩ then op1 - 1 else op1
      let n1 := if isB L k ⟨#[44]⟩ && decide (op2 = 1) then n + 1 else n
      valuesF L e f (k + 1) op2 n1
    else n

def mateB (L : List Tk) (i : Nat) : Int := mateF L (if isB L i ⟨#[41]⟩ || isB L i ⟨#[125]⟩ then -1 else 1) i (L.length + 1) i 0
def valuesB (L : List Tk) (i : Nat) : Int := if mateB L i = i + 1 then 0 else valuesF L (mateB L i) (L.length + 1) i 0 1

end RR

/- More plain functions: the checks on names. No Go here. -/
namespace RR

/-- Of procedures the least place of a parameter that is one too many, from the procedure j on. -/
def manyF (L : List Tk) (at_ : Int) : List Nat → Int
  | [] => at_
  | i :: r => manyF L (leastB at_ (pastB L (paramsB L i) 3)) r

def manyB (L : List Tk) : Int :=
  leastB (manyF L (leastB (leastB (pastB L (wordB L ⟨#[115, 104, 97, 114, 101, 100]⟩) 4) (pastB L (wordB L ⟨#[108, 111, 99, 107, 115]⟩) 3)) (pastB L (procsB L) 4)) (procsB L)) (pastB L (wordB L ⟨#[116, 104, 114, 101, 97, 100, 115]⟩) 3)

def tw1G (L : List Tk) (l : List Nat) : Nat → Int → Int
  | 0, x => x
  | d + 1, x => tw1G L l d (if 0 ≤ indexB L (l.take (l.length - (d + 1))) (tk L (nth l (l.length - (d + 1)))).t then leastB x (tk L (nth l (l.length - (d + 1)))).p else x)
def tw1 (L : List Tk) (l : List Nat) (k : Nat) (x : Int) : Int := tw1G L l (l.length - k) x
theorem tw1_eq (L : List Tk) (l : List Nat) (k : Nat) (x : Int) : tw1 L l k x = if k < l.length then tw1 L l (k + 1) (if 0 ≤ indexB L (l.take k) (tk L (nth l k)).t then leastB x (tk L (nth l k)).p else x) else x := by
  unfold tw1
  by_cases hk : k < l.length
  · have e : l.length - k = (l.length - (k + 1)) + 1 := by omega
    have e2 : l.length - ((l.length - (k + 1)) + 1) = k := by omega
    rw [if_pos hk, e, tw1G, e2]
  · rw [if_neg hk, show l.length - k = 0 by omega]; rfl

def tw2G (L : List Tk) (l m : List Nat) : Nat → Int → Int
  | 0, x => x
  | d + 1, x => tw2G L l m d (if 0 ≤ indexB L (m.take (m.length - (d + 1))) (tk L (nth m (m.length - (d + 1)))).t ∨ 0 ≤ indexB L l (tk L (nth m (m.length - (d + 1)))).t then leastB x (tk L (nth m (m.length - (d + 1)))).p else x)
def tw2 (L : List Tk) (l m : List Nat) (k : Nat) (x : Int) : Int := tw2G L l m (m.length - k) x
theorem tw2_eq (L : List Tk) (l m : List Nat) (k : Nat) (x : Int) : tw2 L l m k x = if k < m.length then tw2 L l m (k + 1) (if 0 ≤ indexB L (m.take k) (tk L (nth m k)).t ∨ 0 ≤ indexB L l (tk L (nth m k)).t then leastB x (tk L (nth m k)).p else x) else x := by
  unfold tw2
  by_cases hk : k < m.length
  · have e : m.length - k = (m.length - (k + 1)) + 1 := by omega
    have e2 : m.length - ((m.length - (k + 1)) + 1) = k := by omega
    rw [if_pos hk, e, tw2G, e2]
  · rw [if_neg hk, show m.length - k = 0 by omega]; rfl

def tw3 (L : List Tk) (l : List Nat) : List Nat → Int → Int
  | [], x => x
  | i :: r, x => tw3 L l r (tw2 L l (paramsB L i) 0 x)

def twiceB (L : List Tk) : Int := tw3 L (ownersB L) (procsB L) (tw1 L (ownersB L) 0 (-1))

theorem ownersB_lt {L : List Tk} (hp : ProcOk L) : ∀ j ∈ ownersB L, j < L.length := by
  intro j hj
  unfold ownersB at hj
  rcases List.mem_append.1 hj with hj | hj
  · rcases List.mem_append.1 hj with hj | hj
    · exact wordF_lt _ _ _ j hj
    · exact wordF_lt _ _ _ j hj
  · exact procsF_lt hp 0 j hj
theorem ownersB_len (L : List Tk) : (ownersB L).length ≤ 3 * L.length := by
  have h1 := wordF_len L kShared 0
  have h2 := wordF_len L kLocks 0
  have h3 := procsF_len L 0
  unfold ownersB wordB procsB
  rw [List.length_append, List.length_append]; omega

end RR

/- More plain functions: is a name given, is it right. No Go here. -/
namespace RR

def givenB (L : List Tk) (i : Nat) : Bool := hasB (ownersB L) i || (procsB L).any fun j => hasB (paramsB L j) i

def givenF (L : List Tk) (i : Nat) (l : List Nat) : Bool := l.any fun j => hasB (paramsB L j) i

/-- Is the name i, where it is used, what it must be? -/
def rightB (L : List Tk) (i : Nat) : Bool :=
  if isB L ((i : Int) - 1) ⟨#[97, 99, 113, 117, 105, 114, 101]⟩ || isB L ((i : Int) - 1) ⟨#[114, 101, 108, 101, 97, 115, 101]⟩ then decide (0 ≤ indexB L (wordB L ⟨#[108, 111, 99, 107, 115]⟩) (tk L i).t)
  else if hasB (wordB L ⟨#[116, 104, 114, 101, 97, 100, 115]⟩) i || isB L ((i : Int) + 1) ⟨#[40]⟩ then decide (0 ≤ indexB L (procsB L) (tk L i).t)
  else decide (0 ≤ indexB L (wordB L ⟨#[115, 104, 97, 114, 101, 100]⟩) (tk L i).t) || decide (0 ≤ indexB L (paramsB L (homeB L i)) (tk L i).t)

theorem homeB_le (L : List Tk) (i : Nat) : homeB L i ≤ i := by
  induction i with
  | zero => exact Nat.le_refl _
  | succ k ih => rw [homeB]; split <;> omega

theorem mateF_bd (L : List Tk) (st : Int) (d : Nat) (hd : d ≤ 500) (hL : L.length ≤ 500) : ∀ (f : Nat) (k n : Int), 0 ≤ mateF L st d f k n ∧ mateF L st d f k n ≤ 500 ∧ (mateF L st d f k n < L.length ∨ mateF L st d f k n = d) := by
  intro f
  induction f with
  | zero => intro k n; rw [mateF]; omega
  | succ f ih =>
    intro k n
    rw [mateF]
    by_cases h : 0 ≤ k ∧ k < L.length
    · rw [if_pos h]
      dsimp only
      generalize (if (tk L k.toNat).t = ⟨#[41]⟩ ∨ (tk L k.toNat).t = ⟨#[125]⟩ then (if (tk L k.toNat).t = ⟨#[40]⟩ ∨ (tk L k.toNat).t = ⟨#[123]⟩ then n + 1 else n) - 1 else if (tk L k.toNat).t = ⟨#[40]⟩ ∨ (tk L k.toNat).t = ⟨#[123]⟩ then n + 1 else n) = n2
      by_cases hz : n2 = 0
      · rw [if_pos hz]; omega
      · rw [if_neg hz]; exact ih _ _
    · rw [if_neg h]; omega

theorem mateB_bd (L : List Tk) (i : Nat) (hi : i ≤ 500) (hL : L.length ≤ 500) : 0 ≤ mateB L i ∧ mateB L i ≤ 500 ∧ (mateB L i < L.length ∨ mateB L i = i) := mateF_bd L _ i hi hL _ _ _

theorem isB_two {L : List Tk} {k : Nat} {a c : ByteArray} (h : isB L k a = true) (hne : a ≠ c) : isB L k c = false := by
  unfold isB at *
  simp only [Bool.and_eq_true, decide_eq_true_iff] at h
  rw [h.2, decide_eq_false hne, Bool.and_false]

theorem val_step (L : List Tk) (e : Int) (f k : Nat) (op n : Int) (h : (k : Int) < e) : ∃ d m : Int, valuesF L e (f + 1) k op n = valuesF L e f (k + 1) (op + d) (n + m) ∧
    ((isB L k ⟨#[40]⟩ = true ∧ isB L k ⟨#[41]⟩ = false ∧ isB L k ⟨#[44]⟩ = false ∧ d = 1 ∧ m = 0) ∨ (isB L k ⟨#[40]⟩ = false ∧ isB L k ⟨#[41]⟩ = true ∧ isB L k ⟨#[44]⟩ = false ∧ d = -1 ∧ m = 0) ∨
     (isB L k ⟨#[40]⟩ = false ∧ isB L k ⟨#[41]⟩ = false ∧ isB L k ⟨#[44]⟩ = true ∧ d = 0 ∧ op = 1 ∧ m = 1) ∨ (isB L k ⟨#[40]⟩ = false ∧ isB L k ⟨#[41]⟩ = false ∧ isB L k ⟨#[44]⟩ = true ∧ d = 0 ∧ op ≠ 1 ∧ m = 0) ∨
     (isB L k ⟨#[40]⟩ = false ∧ isB L k ⟨#[41]⟩ = false ∧ isB L k ⟨#[44]⟩ = false ∧ d = 0 ∧ m = 0)) := by
  rw [valuesF, if_pos h]
  dsimp only
  cases h1 : isB L k ⟨#[40]⟩
  · cases h2 : isB L k ⟨#[41]⟩
    · cases h3 : isB L k ⟨#[44]⟩
      · exact ⟨0, 0, by simp, by simp⟩
      · by_cases h4 : op = 1
        · subst h4; exact ⟨0, 1, by simp, by simp⟩
        · exact ⟨0, 0, by simp [h4], by simp [h4]⟩
    · have h3 := isB_two (c := ⟨#[44]⟩) h2 (by decide)
      exact ⟨-1, 0, by simp [h3, Int.sub_eq_add_neg], by simp [h3]⟩
  · have h2 := isB_two (c := ⟨#[41]⟩) h1 (by decide)
    have h3 := isB_two (c := ⟨#[44]⟩) h1 (by decide)
    exact ⟨1, 0, by simp [h2, h3], by simp [h2, h3]⟩

end RR

/- More plain functions: the reference's check as a whole. No Go here. -/
namespace RR

/-- The place of the first name that is used as what it is not, from i on. -/
def misG (L : List Tk) : Nat → Option Nat
  | 0 => none
  | d + 1 => if isNameB (tk L (L.length - (d + 1))).t && !givenB L (L.length - (d + 1)) && !rightB L (L.length - (d + 1)) then some (tk L (L.length - (d + 1))).p else misG L d
def misF (L : List Tk) (i : Nat) : Option Nat := misG L (L.length - i)
theorem misF_eq (L : List Tk) (i : Nat) : misF L i = if h : i < L.length then if isNameB L[i].t && !givenB L i && !rightB L i then some L[i].p else misF L (i + 1) else none := by
  unfold misF
  by_cases hk : i < L.length
  · have e : L.length - i = (L.length - (i + 1)) + 1 := by omega
    have e2 : L.length - ((L.length - (i + 1)) + 1) = i := by omega
    rw [dif_pos hk, e, misG, e2, tk_eq hk]
  · rw [dif_neg hk, show L.length - i = 0 by omega]; rfl

def procOf (L : List Tk) (i : Nat) : Nat := nth (procsB L) (indexB L (procsB L) (tk L i).t).toNat

/-- The place of the first call with a wrong number of values, from i on. -/
def ariG (L : List Tk) : Nat → Option Nat
  | 0 => none
  | d + 1 => if isNameB (tk L (L.length - (d + 1))).t && !givenB L (L.length - (d + 1)) && isB L (((L.length - (d + 1) : Nat) : Int) + 1) ⟨#[40]⟩ && decide (valuesB L (L.length - (d + 1) + 1) ≠ (paramsB L (procOf L (L.length - (d + 1)))).length) then some (tk L (L.length - (d + 1))).p else ariG L d
def ariF (L : List Tk) (i : Nat) : Option Nat := ariG L (L.length - i)
theorem ariF_eq (L : List Tk) (i : Nat) : ariF L i = if h : i < L.length then if isNameB L[i].t && !givenB L i && isB L ((i : Int) + 1) ⟨#[40]⟩ && decide (valuesB L (i + 1) ≠ (paramsB L (procOf L i)).length) then some L[i].p else ariF L (i + 1) else none := by
  unfold ariF
  by_cases hk : i < L.length
  · have e : L.length - i = (L.length - (i + 1)) + 1 := by omega
    have e2 : L.length - ((L.length - (i + 1)) + 1) = i := by omega
    rw [dif_pos hk, e, ariG, e2, tk_eq hk]
  · rw [dif_neg hk, show L.length - i = 0 by omega]; rfl

/-- The error and its place. -/
def namesCheck (L : List Tk) : Int × Int :=
  if 0 ≤ manyB L then (4, manyB L) else if 0 ≤ twiceB L then (5, twiceB L) else
    match misF L 0 with
    | some p => (5, p)
    | none => match ariF L 0 with
      | some p => (6, p)
      | none => (0, 0)

theorem misF_out {L : List Tk} {i : Nat} (h : ¬ i < L.length) : misF L i = none := by rw [misF_eq, dif_neg h]
theorem misF_no {L : List Tk} {i : Nat} (h : i < L.length) (h2 : (isNameB L[i].t && !givenB L i && !rightB L i) = false) : misF L i = misF L (i + 1) := by rw [misF_eq, dif_pos h, h2]; rfl
theorem misF_yes {L : List Tk} {i : Nat} (h : i < L.length) (h2 : (isNameB L[i].t && !givenB L i && !rightB L i) = true) : misF L i = some L[i].p := by rw [misF_eq, dif_pos h, h2]; rfl
theorem ariF_out {L : List Tk} {i : Nat} (h : ¬ i < L.length) : ariF L i = none := by rw [ariF_eq, dif_neg h]
theorem ariF_no {L : List Tk} {i : Nat} (h : i < L.length) (h2 : (isNameB L[i].t && !givenB L i && isB L ((i : Int) + 1) ⟨#[40]⟩ && decide (valuesB L (i + 1) ≠ (paramsB L (procOf L i)).length)) = false) : ariF L i = ariF L (i + 1) := by rw [ariF_eq, dif_pos h, h2]; rfl
theorem ariF_yes {L : List Tk} {i : Nat} (h : i < L.length) (h2 : (isNameB L[i].t && !givenB L i && isB L ((i : Int) + 1) ⟨#[40]⟩ && decide (valuesB L (i + 1) ≠ (paramsB L (procOf L i)).length)) = true) : ariF L i = some L[i].p := by rw [ariF_eq, dif_pos h, h2]; rfl

/-- Where all is right, each call's name is a procedure's. -/
def CallOk (L : List Tk) : Prop := ∀ i, (h : i < L.length) → isNameB L[i].t = true → givenB L i = false → isB L ((i : Int) + 1) ⟨#[40]⟩ = true → rightB L i = true → 0 ≤ indexB L (procsB L) L[i].t

theorem misF_none {L : List Tk} (i : Nat) (h : misF L i = none) : ∀ j, i ≤ j → (hj : j < L.length) → (isNameB L[j].t && !givenB L j && !rightB L j) = false := by
  induction hn : L.length - i using Nat.strongRecOn generalizing i with
  | ind n ih =>
    intro j hij hj
    have hi : i < L.length := by omega
    cases h2 : (isNameB L[i].t && !givenB L i && !rightB L i)
    · rw [misF_no hi h2] at h
      by_cases e : i = j
      · subst e; exact h2
      · exact ih (L.length - (i + 1)) (by omega) (i + 1) h rfl j (by omega) hj
    · rw [misF_yes hi h2] at h; cases h

theorem indexB_lt (L : List Tk) (l : List Nat) (t : ByteArray) : indexB L l t < l.length ∧ -1 ≤ indexB L l t := by
  unfold indexB
  cases h : l.findIdx? fun j => decide ((tk L j).t = t) with
  | none => exact ⟨by show (-1 : Int) < _; omega, by show (-1 : Int) ≤ -1; omega⟩
  | some k =>
    have := List.findIdx?_eq_some_iff_getElem.1 h
    obtain ⟨h1, _⟩ := this
    exact ⟨by show ((k : Nat) : Int) < _; omega, by show (-1 : Int) ≤ (k : Nat); omega⟩

end RR

/- Contracts of the reference's small functions. -/
namespace Go.Proofs.YtmfcpbhdggonfaaGreatDoor
open Go.RowKit RR

set_option maxHeartbeats 400000 in
theorem r_isLetter (c : UInt8) (w : World) :
    Calls Tryz.prog 82 #[.int .u8 c.toNat] w fun e w' => e = .returned (.bool (isLetterB c)) ∧ w' = w := by
  go_enter Tryz.func82, Tryz.ntmps82
  go_wp2
  all_goals
    go_ret
    refine ⟨ret_bool ?_, rfl⟩
    unfold isLetterB
    rw [Bool.eq_iff_iff]; simp; try omega

/-- The texts of a row of strings. -/
def StrsAt (w : World) (b o : Nat) (l : List ByteArray) : Prop := ∀ i, (h : i < l.length) → w.cell? ⟨b, o + i, none⟩ = some (.string l[i])

theorem strs_alloc {w : World} {e : TypeId} (l : List ByteArray) (vs : Array Value) (h : vs.toList = l.map Value.string) : StrsAt (w.alloc (.cells vs e)) w.heap.size 0 l := by
  intro i hi
  have hh : (w.alloc (.cells vs e)).heap[w.heap.size]? = some (.cells vs e) := heap_alloc_new w _
  have hv : vs[i]? = some (.string l[i]) := by
    rw [← Array.getElem?_toList, h, List.getElem?_map, List.getElem?_eq_getElem hi]; rfl
  simp only [World.cell?, hh, Nat.zero_add]
  exact hv

set_option maxHeartbeats 400000 in
theorem r_in (t : ByteArray) (b o : Nat) (cap : Nat) (l : List ByteArray) (w : World) (hl : l.length ≤ 1000) (hc : StrsAt w b o l) :
    Calls Tryz.prog 83 #[.string t, .slice (some ⟨b, o, none⟩) l.length cap] w fun e w' => e = .returned (.bool (memB l t)) ∧ w' = w := by
  go_enter Tryz.func83, Tryz.ntmps83
  go_wp2
  go_loop [5] (fun i => ∃ k : Nat, k ≤ l.length ∧ i = .int .i64 k ∧ memB (l.take k) t = false) (fun i => l.length - (intOf i).toNat)
  case atStart => exact ⟨0, Nat.zero_le _, rfl, rfl⟩
  case round =>
    obtain ⟨k, hk, rfl, hn⟩ := hrel
    by_cases hlt : k < l.length
    · have hck := hc k hlt
      have HS' : Hid (memB (l.take (k + 1)) t = (memB (l.take k) t || (l[k].toList == t.toList))) := memB_snoc l t k hlt
      have HN : Hid (memB (l.take k) t = false) := hn
      clear hn
      go_wp2
      · go_ret
        refine ⟨ret_bool ?_, rfl⟩
        have h1 : (l[k].toList == t.toList) = true := by assumption
        have : l[k] = t := toList_inj.1 (by simpa using h1)
        rw [← this]; exact (memB_get l k hlt).symm
      · go_round
        case rel => exact ⟨k + 1, by omega, by go_num, by rw [HS'.out, HN.out]; simpa using ‹(l[k].toList == t.toList) = false›⟩
        case measure => simp [intOf]; omega
    · go_wp2
      go_ret
      refine ⟨ret_bool ?_, rfl⟩
      rw [← hn, List.take_of_length_le (by omega)]

theorem kws_at {w : World} : StrsAt (w.alloc (.cells #[.string ⟨#[115, 104, 97, 114, 101, 100]⟩, .string ⟨#[108, 111, 99, 107, 115]⟩, .string ⟨#[112, 114, 111, 99]⟩, .string ⟨#[116, 104, 114, 101, 97, 100, 115]⟩, .string ⟨#[105, 102]⟩, .string ⟨#[101, 108, 115, 101]⟩, .string ⟨#[119, 104, 105, 108, 101]⟩, .string ⟨#[97, 115, 115, 117, 109, 101]⟩, .string ⟨#[97, 99, 113, 117, 105, 114, 101]⟩, .string ⟨#[114, 101, 108, 101, 97, 115, 101]⟩, .string ⟨#[114, 101, 116, 117, 114, 110]⟩, .string ⟨#[115, 107, 105, 112]⟩, .string ⟨#[116, 114, 117, 101]⟩, .string ⟨#[102, 97, 108, 115, 101]⟩] 9)) w.heap.size 0 kws :=
  strs_alloc kws _ rfl

set_option maxHeartbeats 400000 in
theorem r_isName (t : ByteArray) (w : World) (ht : t.size ≤ 500) :
    Calls Tryz.prog 49 #[.string t] w fun e w' => e = .returned (.bool (isNameB t)) ∧ Below w.heap.size w w' := by
  by_cases h0 : t.size = 0
  · have he : t.toList.isEmpty = true := by simp [empty_of h0]
    go_enter Tryz.func49, Tryz.ntmps49
    go_wp2
    go_ret
    exact ⟨ret_bool (isName_empty h0).symm, Below.refl _ _⟩
  · have hp : 0 < t.size := by omega
    have he : t.toList.isEmpty = false := by rw [cons_of hp]; rfl
    clear h0
    go_enter Tryz.func49, Tryz.ntmps49
    have HN : Hid (isNameB t = (isLetterB t[0] && !(memB kws t))) := isName_pos hp
    cases hL : isLetterB t[0]
    · go_wp2_with (go_at_call 82; refine (r_isLetter _ _).mono ?_; rintro e w' ⟨rfl, rfl⟩)
      go_ret
      exact ⟨ret_bool (by rw [HN.out, hL]; rfl), Below.refl _ _⟩
    · go_wp2_with (first | (go_at_call 82; refine (r_isLetter _ _).mono ?_; rintro e w' ⟨rfl, rfl⟩) | (go_at_call 83; refine (r_in t _ _ _ kws _ (by decide) kws_at).mono ?_; rintro e w' ⟨rfl, rfl⟩))
      go_ret
      exact ⟨ret_bool (by rw [HN.out, hL]; rfl), (Below.refl _ _).alloc (Nat.le_refl _) _⟩

end Go.Proofs.YtmfcpbhdggonfaaGreatDoor

/- Contracts of the reference's functions over tokens. -/
namespace Go.Proofs.YtmfcpbhdggonfaaGreatDoor
open Go.RowKit RR

/-- The tokens of a row: two cells each. -/
def ToksAt (w : World) (b o : Nat) (L : List Tk) : Prop :=
  b < w.heap.size ∧ ∀ i, (h : i < L.length) → w.cell? ⟨b, o + i * 2, none⟩ = some (.string L[i].t) ∧ w.cell? ⟨b, o + i * 2 + 1, none⟩ = some (.int .i64 L[i].p)

theorem ToksAt.below {w w' : World} {b o : Nat} {L : List Tk} (h : ToksAt w b o L) (hb : Below w.heap.size w w') : ToksAt w' b o L :=
  ⟨Nat.lt_of_lt_of_le h.1 hb.size, fun i hi => ⟨(hb.cell (p := ⟨b, o + i * 2, none⟩) h.1).trans (h.2 i hi).1, (hb.cell (p := ⟨b, o + i * 2 + 1, none⟩) h.1).trans (h.2 i hi).2⟩⟩

set_option maxHeartbeats 400000 in
theorem r_is (L : List Tk) (b o cap : Nat) (i : Int) (t : ByteArray) (w : World) (_hL : L.length ≤ 500) (hc : ToksAt w b o L) :
    Calls Tryz.prog 52 #[.agg #[.slice (some ⟨b, o, none⟩) L.length cap], .int .i64 i, .string t] w fun e w' => e = .returned (.bool (isB L i t)) ∧ Below w.heap.size w w' := by
  by_cases h0 : 0 ≤ i
  · by_cases h1 : i < L.length
    · obtain ⟨k, rfl⟩ := Int.eq_ofNat_of_zero_le h0
      have hk : k < L.length := by omega
      have hck := (hc.2 k hk).1
      have hb := hc.1
      have HR : Hid (isB L (k : Int) t = (L[k].t.toList == t.toList)) := isB_in hk t
      go_enter Tryz.func52, Tryz.ntmps52
      go_wp2
      go_ret
      exact ⟨ret_bool HR.out.symm, (Below.refl _ _).alloc (Nat.le_refl _) _⟩
    · have HR : Hid (isB L i t = false) := isB_out (.inr (by omega)) t
      go_enter Tryz.func52, Tryz.ntmps52
      go_wp2
      go_ret
      exact ⟨ret_bool HR.out.symm, (Below.refl _ _).alloc (Nat.le_refl _) _⟩
  · have HR : Hid (isB L i t = false) := isB_out (.inl (by omega)) t
    go_enter Tryz.func52, Tryz.ntmps52
    go_wp2
    go_ret
    exact ⟨ret_bool HR.out.symm, (Below.refl _ _).alloc (Nat.le_refl _) _⟩

set_option maxHeartbeats 400000 in
theorem r_least (a b : Int) (w : World) :
    Calls Tryz.prog 80 #[.int .i64 a, .int .i64 b] w fun e w' => e = .returned (.int .i64 (leastB a b)) ∧ w' = w := by
  go_enter Tryz.func80, Tryz.ntmps80
  go_wp2
  all_goals
    go_ret
    refine ⟨ret_int ?_, rfl⟩
    unfold leastB
    split <;> omega

theorem below_drewN (B : Nat) (w : World) (n : Nat) : Below B w (w.drewN n) := ⟨rfl, rfl, rfl, Nat.le_refl _, fun _ _ => rfl⟩

/-- A slice of numbers of tokens. -/
def IntSl (w : World) (ao : Option Addr) (cap : Nat) (l : List Nat) : Prop := (ao = none → cap = 0) ∧ l.length ≤ cap ∧ ∀ i, (h : i < l.length) → ∃ b o, b < w.heap.size ∧ ao = some ⟨b, o, none⟩ ∧ w.cell? ⟨b, o + i, none⟩ = some (.int .i64 l[i])

theorem IntSl.below {w w' : World} {ao : Option Addr} {cap : Nat} {l : List Nat} (h : IntSl w ao cap l) (hb : Below w.heap.size w w') : IntSl w' ao cap l := ⟨h.1, h.2.1, fun i hi => by
  obtain ⟨b, o, h1, h2, h3⟩ := h.2.2 i hi
  exact ⟨b, o, Nat.lt_of_lt_of_le h1 hb.size, h2, (hb.cell (p := ⟨b, o + i, none⟩) h1).trans h3⟩⟩

set_option maxHeartbeats 400000 in
theorem r_has (ao : Option Addr) (cap : Nat) (l : List Nat) (i : Int) (w : World) (hl : l.length ≤ 2000) (hc : IntSl w ao cap l) :
    Calls Tryz.prog 84 #[.slice ao l.length cap, .int .i64 i] w fun e w' => e = .returned (.bool (hasB l i)) ∧ w' = w := by
  go_enter Tryz.func84, Tryz.ntmps84
  go_wp2
  go_loop [5] (fun i' => ∃ k : Nat, k ≤ l.length ∧ i' = .int .i64 k ∧ hasB (l.take k) i = false) (fun i => l.length - (intOf i).toNat)
  case atStart => exact ⟨0, Nat.zero_le _, rfl, rfl⟩
  case round =>
    obtain ⟨k, hk, rfl, hn⟩ := hrel
    by_cases hlt : k < l.length
    · obtain ⟨b, o, hb, rfl, hck⟩ := hc.2.2 k hlt
      have HS : Hid (hasB (l.take (k + 1)) i = (hasB (l.take k) i || decide ((l[k] : Int) = i))) := hasB_snoc l i k hlt
      have HN : Hid (hasB (l.take k) i = false) := hn
      clear hn
      by_cases he : (l[k] : Int) = i
      · have he' : ((l[k] : Int) == i) = true := beq_iff_eq.2 he
        have HE : Hid ((l[k] : Int) = i) := he
        clear he
        go_wp2
        go_ret
        exact ⟨ret_bool (hasB_get l i k hlt HE.out).symm, rfl⟩
      · have he' : ((l[k] : Int) == i) = false := beq_eq_false_iff_ne.2 he
        go_wp2
        go_round
        case rel => exact ⟨k + 1, by omega, by go_num, by rw [HS.out, HN.out, decide_eq_false he]; rfl⟩
        case measure => simp [intOf]; omega
    · go_wp2
      go_ret
      exact ⟨ret_bool (by rw [← hn, List.take_of_length_le (by omega)]), rfl⟩

set_option maxHeartbeats 400000 in
theorem r_index (L : List Tk) (b o cap : Nat) (ao : Option Addr) (cap' : Nat) (l : List Nat) (t : ByteArray) (w : World) (_hL : L.length ≤ 500) (hc : ToksAt w b o L) (hl : l.length ≤ 2000) (hi : IntSl w ao cap' l) (hin : ∀ j ∈ l, j < L.length) :
    Calls Tryz.prog 54 #[.agg #[.slice (some ⟨b, o, none⟩) L.length cap], .slice ao l.length cap', .string t] w fun e w' => e = .returned (.int .i64 (indexB L l t)) ∧ Below w.heap.size w w' := by
  have hbb := hc.1
  go_enter Tryz.func54, Tryz.ntmps54
  go_wp2
  go_loopw [7] (fun i wr => ∃ k : Nat, k ≤ l.length ∧ i = .int .i64 k ∧ (∀ j, (hj : j < k) → (hk : k ≤ l.length) → ((tk L (l[j]'(by omega))).t = t) = False) ∧ wr.cell? ⟨w.heap.size, 0, none⟩ = some (.slice (some ⟨b, o, none⟩) L.length cap) ∧ Below w.heap.size w wr) (fun i _ => l.length - (intOf i).toNat)
  case atStart => exact ⟨0, Nat.zero_le _, rfl, fun j hj => absurd hj (by omega), by simp, (Below.refl _ _).alloc (Nat.le_refl _) _⟩
  case round =>
    obtain ⟨k, hk, rfl, hn, hcell, hbel⟩ := hrel
    by_cases hlt : k < l.length
    · obtain ⟨b', o', hb', rfl, hck⟩ := (hi.below hbel).2.2 k hlt
      have hm : l[k] < L.length := hin _ (List.getElem_mem _)
      have hct := ((hc.below hbel).2 l[k] hm).1
      have HN := hide hn
      have HB := hide hbel
      have HC := hide hcell
      clear hn hbel
      by_cases he : (L[l[k]].t.toList == t.toList) = true
      · go_wp2
        go_quiet (fail)
        go_wp2
        go_ret
        exact ⟨ret_int (indexB_get L l t k hlt (fun j hj => HN.out j hj hk) (by rw [tk_eq hm]; exact toList_inj.1 (by simpa using he))).symm, HB.out.trans (below_drewN _ _ _)⟩
      · replace he : (L[l[k]].t.toList == t.toList) = false := by simpa using he
        go_wp2
        go_quiet (fail)
        go_wp2
        go_roundw
        case rel =>
          refine ⟨k + 1, by omega, by go_num, fun j hj hk' => ?_, by simpa using hcell, HB.out.trans (below_drewN _ _ _)⟩
          by_cases hjk : j < k
          · exact HN.out j hjk hk
          · have : j = k := by omega
            subst this
            rw [tk_eq hm]
            exact eq_false fun e => by rw [e] at he; simp at he
        case measure => simp [intOf]; omega
    · go_wp2
      go_ret
      have : k = l.length := by omega
      subst this
      exact ⟨ret_int (indexB_none L l t fun j hj => hn j hj (Nat.le_refl _)).symm, hbel⟩

end Go.Proofs.YtmfcpbhdggonfaaGreatDoor

/- Contracts of the reference's functions over tokens that call others in loops. -/
namespace Go.Proofs.YtmfcpbhdggonfaaGreatDoor
open Go.RowKit RR

/-- What is known behind a box with a program in it. -/
theorem bx {w wr : World} {T : TypeId} {v : Value} (hb : Below (w.heap.size + 1) (w.alloc (.cells #[v] T)) wr) : wr.cell? ⟨w.heap.size, 0, none⟩ = some v ∧ w.heap.size < wr.heap.size ∧ Below w.heap.size w wr := by
  have h1 : (w.alloc (.cells #[v] T)).cell? ⟨w.heap.size, 0, none⟩ = some v := by simp
  have h2 := hb.size
  refine ⟨(hb.cell (p := ⟨w.heap.size, 0, none⟩) (Nat.lt_succ_self _)).trans h1, ?_, ((Below.refl _ _).alloc (Nat.le_refl _) _).trans (hb.mono (Nat.le_succ _))⟩
  simp at h2; omega

set_option maxHeartbeats 400000 in
theorem r_home (L : List Tk) (b o cap : Nat) (i : Nat) (w : World) (hL : L.length ≤ 500) (hc : ToksAt w b o L) (hi : i ≤ 1000) :
    Calls Tryz.prog 85 #[.agg #[.slice (some ⟨b, o, none⟩) L.length cap], .int .i64 i] w fun e w' => e = .returned (.int .i64 (homeB L i)) ∧ Below w.heap.size w w' := by
  go_enter Tryz.func85, Tryz.ntmps85
  go_wp2
  go_loopw [5] (fun u wr => ∃ k : Nat, k ≤ i ∧ u = .int .i64 k ∧ homeB L i = homeB L k ∧ Below (w.heap.size + 1) (w.alloc (.cells #[.slice (some ⟨b, o, none⟩) L.length cap] 71)) wr) (fun u _ => (intOf u).toNat)
  case atStart => exact ⟨i, Nat.le_refl _, rfl, rfl, Below.refl _ _⟩
  case round =>
    obtain ⟨k, hk, rfl, hn, hbx⟩ := hrel
    obtain ⟨hcell, hsz, hbel⟩ := bx hbx
    have hct := hc.below hbel
    have HN := hide hn
    have HB := hide hbx
    clear hn hbel hbx
    cases k with
    | zero =>
      go_wp2
      go_ret
      exact ⟨ret_int (by rw [HN.out]; rfl), (bx HB.out).2.2⟩
    | succ m =>
      cases hB : isB L (m : Int) ⟨#[112, 114, 111, 99]⟩
      · have HR : Hid (homeB L (m + 1) = homeB L m) := by show homeB L (m + 1) = homeB L m; rw [homeB, kProc, hB]; exact if_neg (by decide)
        go_wp2_with (go_at_call 52; refine (r_is L b o cap _ _ _ hL hct).mono ?_; rintro e w1 ⟨rfl, hb1⟩)
        go_roundw
        case rel => exact ⟨m, by omega, rfl, by rw [HN.out, HR.out], HB.out.trans (hb1.mono hsz)⟩
        case measure => simp [intOf]
      · have HR : Hid (homeB L (m + 1) = m + 1) := by show homeB L (m + 1) = m + 1; rw [homeB, kProc, hB]; exact if_pos rfl
        go_wp2_with (go_at_call 52; refine (r_is L b o cap _ _ _ hL hct).mono ?_; rintro e w1 ⟨rfl, hb1⟩)
        go_ret
        exact ⟨ret_int (by rw [HN.out, HR.out]; omega), (bx (HB.out.trans (hb1.mono hsz))).2.2⟩

set_option maxHeartbeats 400000 in
theorem r_past (L : List Tk) (b o cap : Nat) (ao : Option Addr) (cap' : Nat) (l : List Nat) (m : Nat) (w : World) (hc : ToksAt w b o L) (_hL : L.length ≤ 500) (_hl : l.length ≤ 2000) (hi : IntSl w ao cap' l) (hin : ∀ j ∈ l, j < L.length) :
    Calls Tryz.prog 78 #[.agg #[.slice (some ⟨b, o, none⟩) L.length cap], .slice ao l.length cap', .int .i64 m] w fun e w' => e = .returned (.int .i64 (pastB L l m)) ∧ Below w.heap.size w w' := by
  have hbb := hc.1
  by_cases hm : m < l.length
  · obtain ⟨b', o', hb', rfl, hck⟩ := hi.2.2 m hm
    have hj : l[m] < L.length := hin _ (List.getElem_mem _)
    have hct := (hc.2 l[m] hj).2
    have HR : Hid (pastB L l m = L[l[m]].p) := by unfold pastB; rw [if_pos hm, nth_eq hm, tk_eq hj]; exact rfl
    go_enter Tryz.func78, Tryz.ntmps78
    go_wp2
    go_quiet (fail)
    go_wp2
    go_ret
    exact ⟨ret_int HR.out.symm, ((Below.refl _ _).alloc (Nat.le_refl _) _).trans (below_drewN _ _ _)⟩
  · have HR : Hid (pastB L l m = -1) := by show pastB L l m = -1; unfold pastB; rw [if_neg hm]
    go_enter Tryz.func78, Tryz.ntmps78
    go_wp2
    go_ret
    exact ⟨ret_int HR.out.symm, (Below.refl _ _).alloc (Nat.le_refl _) _⟩

theorem Tryz.infoInt : (Tryz.prog.info? 3).map (fun i => (i.zero, i.size, i.bytes)) = some (some (.int .i64 0), 1, 8) := by kernel_rfl

theorem intSl_of_owns {w : World} {base : Nat} {v : Value} {l : List Nat} (h : w.ownsRow base 3 1 v l.length (ints l)) : ∃ ao cap, v = .slice ao l.length cap ∧ IntSl w ao cap l := by
  obtain ⟨h1, h2 | ⟨g, cap, cur, hv, hb, hh, hcap, hmax, hsz, htk⟩⟩ := h
  · refine ⟨none, 0, ?_, fun _ => rfl, by omega, fun i hi => by omega⟩
    rw [h2.1, h2.2]
  · refine ⟨some ⟨g, 0, none⟩, cap, hv, fun h => by simp at h, hcap, fun i hi => ⟨g, 0, (Array.getElem?_eq_some_iff.1 hh).1, rfl, ?_⟩⟩
    have e1 : cur[i]? = some (.int .i64 l[i]) := by
      have e2 : (cur.toList.take (l.length * 1))[i]? = (ints l)[i]? := by rw [htk]
      rw [List.getElem?_take_of_lt (by omega), Array.getElem?_toList] at e2
      rw [e2, ints, List.getElem?_map, List.getElem?_eq_getElem hi]; rfl
    simp only [World.cell?, hh, Nat.zero_add]
    exact e1

theorem owns_below {w w' : World} {base : Nat} {e : TypeId} {size : Nat} {v : Value} {n : Nat} {xs : List Value} (h : w.ownsRow base e size v n xs) (hb : Below w.heap.size w w') : w'.ownsRow base e size v n xs := by
  refine ⟨h.1, ?_⟩
  rcases h.2 with h2 | ⟨g, cap, cur, hv, hg, hh, r⟩
  · exact .inl h2
  · exact .inr ⟨g, cap, cur, hv, hg, by rw [hb.block g (Array.getElem?_eq_some_iff.1 hh).1]; exact hh, r⟩

theorem ret_ints {w wr : World} {base : Nat} {v : Value} {l l' : List Nat} (h : wr.ownsRow base 3 1 v l.length (ints l)) (e : l = l') (hb : Below w.heap.size w wr) : ∃ ao cap, Ending.returned v = .returned (.slice ao l'.length cap) ∧ IntSl wr ao cap l' ∧ Below w.heap.size w wr := by
  subst e
  obtain ⟨ao, cap, rfl, hs⟩ := intSl_of_owns h
  exact ⟨ao, cap, rfl, hs, hb⟩

theorem one_cell {w : World} {T : TypeId} {x : Value} : ∀ (j : Nat) (u : Value), [x][j]? = some u → (w.alloc (.cells #[x] T)).cell? ((⟨w.heap.size, 0, none⟩ : Addr).add j) = some u := by
  intro j u hj
  match j, hj with
  | 0, hj => simp at hj; subst hj; simp [Addr.add]

theorem int_one {k : Int} : ∀ u ∈ [Value.int .i64 k], u.oneCell' = true := by intro u hu; simp at hu; subst hu; rfl

/-- l = append(l, k): one number onto a slice of the call's own. -/
theorem app_int {ops : Array Oper} {rest : List Oper} {o : Oper} {a : Act} {Q : Exit → Act → World → Prop} {w0 : World} {B : Nat} {v : Value} {l : List Nat} (k : Nat)
    (hown : w0.ownsRow B 3 1 v l.length (ints l)) (hl : l.length ≤ 100000) (hB : B ≤ w0.heap.size) (hgd : o.guard = none) (s x : Operand)
    (ho : o.op = .call { callee := .builtin .append, args := #[s, x], argTypes := #[93, 93] }) (hs : a.eval s = v)
    (hx : a.eval x = .slice (some ⟨w0.heap.size, 0, none⟩) 1 1)
    (h : ∀ v' w', w'.ownsRow B 3 1 v' (l ++ [k]).length (ints (l ++ [k])) → (∀ a0, Below B a0 w0 → Below B a0 w') → wpList Tryz.prog ops Q rest (a.put o.dst v') w') :
    wpList Tryz.prog ops Q (o :: rest) a (w0.alloc (.cells #[.int .i64 k] 3)) := by
  obtain ⟨i0, hi0, hz0, hz1, hz2⟩ := info_parts Tryz.infoInt
  refine wpList_append_own _ hgd s x 93 ho B 3 i0 (.int .i64 0) 1 8 Tryz.underlying93 hi0 hz0 hz1 hz2 rfl (by decide) v l.length (ints l) hs (hown.alloc _) ⟨w0.heap.size, 0, none⟩ 1 1 [.int .i64 k] hx rfl one_cell int_one (by unfold maxLen; omega) (by omega) (by simp; omega) ?_
  intro v' w' h1 h2 _
  refine h v' w' ?_ fun a0 h0 => (h0.alloc hB _).grown h2 (by simp; omega) fun k hk => (hown.lt k hk).1
  rw [ints_append, List.length_append]; exact h1

theorem namesF_out {L : List Tk} {k : Nat} (h : ¬ k < L.length) : namesF L k = [] := by rw [namesF_eq, if_neg h]
theorem namesF_no {L : List Tk} {k : Nat} (h : k < L.length) (h2 : isNameB L[k].t = false) : namesF L k = [] := by rw [namesF_eq, if_pos h, tk_eq h, h2]; rfl
theorem namesF_last {L : List Tk} {k : Nat} (h : k < L.length) (h2 : isNameB L[k].t = true) (h3 : isB L (k + 1 : Nat) ⟨#[44]⟩ = false) : namesF L k = [k] := by rw [namesF_eq, if_pos h, tk_eq h, h2, h3]; rfl
theorem namesF_more {L : List Tk} {k : Nat} (h : k < L.length) (h2 : isNameB L[k].t = true) (h3 : isB L (k + 1 : Nat) ⟨#[44]⟩ = true) : namesF L k = k :: namesF L (k + 2) := by rw [namesF_eq, if_pos h, tk_eq h, h2, h3]; rfl

set_option maxHeartbeats 1000000 in
theorem r_names (L : List Tk) (b o cap : Nat) (i : Nat) (w : World) (hL : L.length ≤ 500) (ht : ∀ k, (h : k < L.length) → L[k].t.size ≤ 500) (hc : ToksAt w b o L) (hi : i ≤ 1000) :
    Calls Tryz.prog 87 #[.agg #[.slice (some ⟨b, o, none⟩) L.length cap], .int .i64 i] w fun e w' => ∃ ao cap, e = .returned (.slice ao (namesF L (i + 1)).length cap) ∧ IntSl w' ao cap (namesF L (i + 1)) ∧ Below w.heap.size w w' := by
  obtain ⟨i0, hi0, hz0, hz1, hz2⟩ := info_parts Tryz.infoInt
  go_enter Tryz.func87, Tryz.ntmps87
  go_wp2
  go_loopw [5, 6] (fun v u wr => ∃ (k : Nat) (acc : List Nat), u = .int .i64 k ∧ k ≤ 1002 ∧ acc.length ≤ k ∧ acc ++ namesF L k = namesF L (i + 1) ∧ wr.ownsRow (w.heap.size + 1) 3 1 v acc.length (ints acc) ∧ Below (w.heap.size + 1) (w.alloc (.cells #[.slice (some ⟨b, o, none⟩) L.length cap] 71)) wr) (fun _ u _ => 2000 - (intOf u).toNat)
  case atStart => exact ⟨i + 1, [], by go_num, by omega, by simp, rfl, World.ownsRow_nil _ _ _ _, Below.refl _ _⟩
  case round =>
    obtain ⟨k, acc, rfl, hk, hacc, hn, hown, hbx⟩ := hrel
    obtain ⟨hcell, hsz, hbel⟩ := bx hbx
    have hct := hc.below hbel
    have HN := hide hn
    have HB := hide hbx
    clear hn hbel hbx
    by_cases hlt : k < L.length
    · have hck := (hct.2 k hlt).1
      have hts := ht k hlt
      cases hNm : isNameB L[k].t
      · have HE := hide (namesF_no hlt hNm)
        go_wp2_with (go_at_call 49; refine (r_isName _ _ hts).mono ?_; rintro e w1 ⟨rfl, hb1⟩)
        go_ret
        refine ret_ints (owns_below hown hb1) ?_ (bx (HB.out.trans (hb1.mono hsz))).2.2
        rw [← HN.out, HE.out, List.append_nil]
      · cases hCm : isB L ((k : Int) + 1) ⟨#[44]⟩
        · have HE := hide (namesF_last hlt hNm hCm)
          go_wp2_with (first | (go_at_call 49; refine (r_isName _ _ hts).mono ?_; rintro e w1 ⟨rfl, hb1⟩; have hown1 := owns_below hown hb1; have hsz1 : w.heap.size < w1.heap.size := Nat.lt_of_lt_of_le hsz hb1.size) | (at_builtin; refine app_int k hown1 (by omega) (by omega) rfl _ _ rfl rfl rfl ?_; intro v2 w2 hown2 hb2; obtain ⟨hcell2, hsz2, hbel2⟩ := bx (hb2 _ (HB.out.trans (hb1.mono hsz))); have hct2 := hc.below hbel2; have HB2 := hide (hb2 _ (HB.out.trans (hb1.mono hsz))); clear hbel2 hb2) | (go_at_call 52; refine (r_is L b o cap _ _ _ hL hct2).mono ?_; rintro e w3 ⟨rfl, hb3⟩))
          go_ret
          refine ret_ints (owns_below hown2 hb3) ?_ (bx (HB2.out.trans (hb3.mono hsz2))).2.2
          rw [← HN.out, HE.out]
        · have HE := hide (namesF_more hlt hNm hCm)
          go_wp2_with (first | (go_at_call 49; refine (r_isName _ _ hts).mono ?_; rintro e w1 ⟨rfl, hb1⟩; have hown1 := owns_below hown hb1; have hsz1 : w.heap.size < w1.heap.size := Nat.lt_of_lt_of_le hsz hb1.size) | (at_builtin; refine app_int k hown1 (by omega) (by omega) rfl _ _ rfl rfl rfl ?_; intro v2 w2 hown2 hb2; obtain ⟨hcell2, hsz2, hbel2⟩ := bx (hb2 _ (HB.out.trans (hb1.mono hsz))); have hct2 := hc.below hbel2; have HB2 := hide (hb2 _ (HB.out.trans (hb1.mono hsz))); clear hbel2 hb2) | (go_at_call 52; refine (r_is L b o cap _ _ _ hL hct2).mono ?_; rintro e w3 ⟨rfl, hb3⟩))
          go_roundw
          case rel => exact ⟨k + 2, acc ++ [k], by go_num, by omega, by simp; omega, by rw [← HN.out, HE.out, List.append_assoc]; rfl, owns_below hown2 hb3, HB2.out.trans (hb3.mono hsz2)⟩
          case measure => simp [intOf]; omega
    · have HE := hide (namesF_out hlt)
      go_wp2
      go_ret
      refine ret_ints hown ?_ (bx HB.out).2.2
      rw [← HN.out, HE.out, List.append_nil]

end Go.Proofs.YtmfcpbhdggonfaaGreatDoor
