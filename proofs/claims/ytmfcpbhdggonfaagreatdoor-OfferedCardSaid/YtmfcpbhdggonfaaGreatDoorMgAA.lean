/- Small words that all texts use. -/
import Derived.Test.YtmfcpbhdggonfaaGreatDoorRows
import Derived.WalkKit
import Derived.WalkSpells
import Derived.WalkLawsBesides
import Derived.Laws.Strings
import Derived.Deep.QuietTactic
import Derived.BigQuiet
import Derived.Laws.AppendOwnNone
import Derived.Deep.RegionWith
import Derived.Deep.RegionHeld
namespace Go.Proofs.YtmfcpbhdggonfaaGreatDoor
open Go.RowKit

theorem ret_bool {a b : Bool} (h : a = b) : Ending.returned (.bool a) = .returned (.bool b) := by rw [h]
theorem ret_int {k : IntKind} {a b : Int} (h : a = b) : Ending.returned (.int k a) = .returned (.int k b) := by rw [h]
theorem hide {p : Prop} (h : p) : Hid p := h
theorem bcell {W w1 : World} (hb : Below W.heap.size W w1) : (∀ b o, b < W.heap.size → w1.cell? ⟨b, o, none⟩ = W.cell? ⟨b, o, none⟩) ∧ (∀ b o, b < W.heap.size → w1.frozen? ⟨b, o, none⟩ = W.frozen? ⟨b, o, none⟩) :=
  ⟨fun b o h => hb.cell (p := ⟨b, o, none⟩) h, fun b o h => hb.frozen (p := ⟨b, o, none⟩) h⟩

end Go.Proofs.YtmfcpbhdggonfaaGreatDoor

namespace RR

def isLetterB (c : UInt8) : Bool := decide (97 ≤ c.toNat) && decide (c.toNat ≤ 122)

structure Tk where
  t : ByteArray
  p : Nat

theorem bl (b : ByteArray) : b.toList = b.data.toList := by
  exact Go.ByteArray.toList_eq b

theorem toList_inj {a b : ByteArray} : a.toList = b.toList ↔ a = b := by
  rw [bl, bl]
  constructor
  · intro h
    cases a; cases b; simp_all
  · intro h; rw [h]

theorem seq_comm (a b : ByteArray) : (a.toList == b.toList) = decide (a = b) := by
  rw [Bool.eq_iff_iff]; simp [toList_inj]

def kws : List ByteArray := [⟨#[115, 104, 97, 114, 101, 100]⟩, ⟨#[108, 111, 99, 107, 115]⟩, ⟨#[112, 114, 111, 99]⟩, ⟨#[116, 104, 114, 101, 97, 100, 115]⟩, ⟨#[105, 102]⟩, ⟨#[101, 108, 115, 101]⟩, ⟨#[119, 104, 105, 108, 101]⟩, ⟨#[97, 115, 115, 117, 109, 101]⟩, ⟨#[97, 99, 113, 117, 105, 114, 101]⟩, ⟨#[114, 101, 108, 101, 97, 115, 101]⟩, ⟨#[114, 101, 116, 117, 114, 110]⟩, ⟨#[115, 107, 105, 112]⟩, ⟨#[116, 114, 117, 101]⟩, ⟨#[102, 97, 108, 115, 101]⟩]

def memB (l : List ByteArray) (t : ByteArray) : Bool := l.any fun x => decide (x = t)

theorem memB_snoc (l : List ByteArray) (t : ByteArray) (k : Nat) (h : k < l.length) : memB (l.take (k + 1)) t = (memB (l.take k) t || (l[k].toList == t.toList)) := by
  rw [seq_comm, List.take_succ_eq_append_getElem h, memB, List.any_append]
  simp [memB]

theorem memB_get (l : List ByteArray) (k : Nat) (h : k < l.length) : memB l l[k] = true := by
  unfold memB; rw [List.any_eq_true]; exact ⟨l[k], List.getElem_mem _, decide_eq_true rfl⟩

def isNameB (t : ByteArray) : Bool := (match t.toList with | [] => false | c :: _ => isLetterB c) && !(memB kws t)

theorem len_toList (t : ByteArray) : t.toList.length = t.size := by rw [bl]; rfl
theorem empty_of {t : ByteArray} (h : t.size = 0) : t.toList = [] := List.length_eq_zero_iff.1 ((len_toList t).trans h)
theorem cons_list (l : List UInt8) (h : 0 < l.length) : l = l[0] :: l.tail := by
  cases l with
  | nil => exact absurd h (by decide)
  | cons c r => rfl
theorem cons_of {t : ByteArray} (h : 0 < t.size) : t.toList = t[0] :: t.toList.tail := by
  rw [bl]; exact cons_list _ h
theorem isName_empty {t : ByteArray} (h : t.size = 0) : isNameB t = false := by unfold isNameB; rw [empty_of h]; rfl
theorem isName_pos {t : ByteArray} (h : 0 < t.size) : isNameB t = (isLetterB t[0] && !(memB kws t)) := by
  unfold isNameB; rw [cons_of h]


def tk (L : List Tk) (i : Nat) : Tk := L[i]?.getD ⟨⟨#[]⟩, 0⟩
theorem tk_eq {L : List Tk} {i : Nat} (h : i < L.length) : tk L i = L[i] := by unfold tk; rw [List.getElem?_eq_getElem h]; rfl
def nth (l : List Nat) (i : Nat) : Nat := l[i]?.getD 0
theorem nth_eq {l : List Nat} {i : Nat} (h : i < l.length) : nth l i = l[i] := by unfold nth; rw [List.getElem?_eq_getElem h]; rfl

def isB (L : List Tk) (i : Int) (t : ByteArray) : Bool := decide (0 ≤ i) && decide (i < L.length) && decide ((tk L i.toNat).t = t)

def leastB (a b : Int) : Int := if a < 0 ∨ (0 ≤ b ∧ b < a) then b else a

theorem isB_in {L : List Tk} {k : Nat} (h : k < L.length) (t : ByteArray) : isB L k t = (L[k].t.toList == t.toList) := by
  unfold isB
  rw [seq_comm, decide_eq_true (by omega), decide_eq_true (by omega), Int.toNat_natCast, tk_eq h]
  rfl
theorem isB_out {L : List Tk} {i : Int} (h : i < 0 ∨ (L.length : Int) ≤ i) (t : ByteArray) : isB L i t = false := by
  unfold isB
  rcases h with h | h
  · rw [decide_eq_false (by omega)]; rfl
  · rw [decide_eq_false (p := i < L.length) (by omega), Bool.and_false]; rfl

def indexB (L : List Tk) (l : List Nat) (t : ByteArray) : Int :=
  match l.findIdx? fun j => decide ((tk L j).t = t) with
  | some i => i
  | none => -1

def hasB (l : List Nat) (i : Int) : Bool := l.any fun j => decide ((j : Int) = i)

theorem hasB_snoc (l : List Nat) (i : Int) (k : Nat) (h : k < l.length) : hasB (l.take (k + 1)) i = (hasB (l.take k) i || decide ((l[k] : Int) = i)) := by
  rw [List.take_succ_eq_append_getElem h, hasB, List.any_append]; simp [hasB]
theorem hasB_get (l : List Nat) (i : Int) (k : Nat) (h : k < l.length) (e : (l[k] : Int) = i) : hasB l i = true := by
  unfold hasB; rw [List.any_eq_true]; exact ⟨l[k], List.getElem_mem _, decide_eq_true e⟩

theorem indexB_get (L : List Tk) (l : List Nat) (t : ByteArray) (k : Nat) (h : k < l.length) (hn : ∀ j, (hj : j < k) → ((tk L (l[j]'(by omega))).t = t) = False) (e : (tk L l[k]).t = t) : indexB L l t = k := by
  have : l.findIdx? (fun j => decide ((tk L j).t = t)) = some k := by
    rw [List.findIdx?_eq_some_iff_getElem]
    exact ⟨h, decide_eq_true e, fun j hj => by simp [hn j hj]⟩
  unfold indexB; rw [this]
theorem indexB_none (L : List Tk) (l : List Nat) (t : ByteArray) (hn : ∀ j, (hj : j < l.length) → ((tk L l[j]).t = t) = False) : indexB L l t = -1 := by
  have : l.findIdx? (fun j => decide ((tk L j).t = t)) = none := by
    rw [List.findIdx?_eq_none_iff]
    intro x hx
    obtain ⟨j, hj, rfl⟩ := List.getElem_of_mem hx
    exact decide_eq_false (by rw [hn j hj]; exact not_false)
  unfold indexB; rw [this]

def pastB (L : List Tk) (l : List Nat) (most : Nat) : Int := if most < l.length then ((tk L (nth l most)).p : Int) else -1

def kProc : ByteArray := ⟨#[112, 114, 111, 99]⟩

def homeB (L : List Tk) : Nat → Nat
  | 0 => 0
  | k + 1 => if isB L k kProc then k + 1 else homeB L k

def sComma : ByteArray := ⟨#[44]⟩

def namesG (L : List Tk) : Nat → List Nat
  | 0 => []
  | 1 => if isNameB (tk L (L.length - 1)).t then [L.length - 1] else []
  | d + 2 => if isNameB (tk L (L.length - (d + 2))).t then (L.length - (d + 2)) :: (if isB L (L.length - (d + 2) + 1 : Nat) ⟨#[44]⟩ then namesG L d else []) else []
def namesF (L : List Tk) (k : Nat) : List Nat := namesG L (L.length - k)
theorem namesF_eq (L : List Tk) (k : Nat) : namesF L k = if k < L.length then if isNameB (tk L k).t then k :: (if isB L (k + 1 : Nat) ⟨#[44]⟩ then namesF L (k + 2) else []) else [] else [] := by
  unfold namesF
  by_cases hk : k < L.length
  · rw [if_pos hk]
    obtain ⟨d, hd⟩ : ∃ d, L.length - k = d + 1 := ⟨L.length - k - 1, by omega⟩
    cases d with
    | zero =>
      have e : L.length - 1 = k := by omega
      rw [hd, isB_out (by omega)]
      show (if isNameB (tk L (L.length - 1)).t then [L.length - 1] else []) = _
      rw [e]; rfl
    | succ d =>
      have e : L.length - (d + 2) = k := by omega
      have e2 : L.length - (k + 2) = d := by omega
      rw [hd, e2]
      show (if isNameB (tk L (L.length - (d + 2))).t then (L.length - (d + 2)) :: (if isB L (L.length - (d + 2) + 1 : Nat) ⟨#[44]⟩ then namesG L d else []) else []) = _
      rw [e]
  · rw [if_neg hk, show L.length - k = 0 by omega]; rfl

def ints (l : List Nat) : List Go.Value := l.map fun (n : Nat) => .int .i64 n
theorem ints_append (a b : List Nat) : ints (a ++ b) = ints a ++ ints b := List.map_append
theorem ints_length (a : List Nat) : (ints a).length = a.length := List.length_map _

theorem namesF_lt (L : List Tk) (k : Nat) : ∀ j ∈ namesF L k, k ≤ j ∧ j < L.length := by
  induction h : L.length - k using Nat.strongRecOn generalizing k with
  | ind n ih =>
    intro j hj
    rw [namesF_eq] at hj
    by_cases h1 : k < L.length
    · rw [if_pos h1] at hj
      by_cases h2 : isNameB (tk L k).t
      · rw [if_pos h2] at hj
        rcases List.mem_cons.1 hj with rfl | hj
        · exact ⟨Nat.le_refl _, h1⟩
        · by_cases h3 : isB L (k + 1 : Nat) ⟨#[44]⟩
          · rw [if_pos h3] at hj
            have := ih (L.length - (k + 2)) (by omega) (k + 2) rfl j hj
            exact ⟨by omega, this.2⟩
          · rw [if_neg h3] at hj; cases hj
      · rw [if_neg h2] at hj; cases hj
    · rw [if_neg h1] at hj; cases hj

theorem namesF_len (L : List Tk) (k : Nat) : (namesF L k).length ≤ L.length - k := by
  induction h : L.length - k using Nat.strongRecOn generalizing k with
  | ind n ih =>
    rw [namesF_eq]
    by_cases h1 : k < L.length
    · rw [if_pos h1]
      by_cases h2 : isNameB (tk L k).t
      · rw [if_pos h2]
        by_cases h3 : isB L (k + 1 : Nat) ⟨#[44]⟩
        · rw [if_pos h3]
          have := ih (L.length - (k + 2)) (by omega) (k + 2) rfl
          rw [List.length_cons]; omega
        · rw [if_neg h3, List.length_cons, List.length_nil]; omega
      · rw [if_neg h2]; exact Nat.zero_le _
    · rw [if_neg h1]; exact Nat.zero_le _

def mateF (L : List Tk) (st : Int) (d : Int) : Nat → Int → Int → Int
  | 0, _, _ => d
  | f + 1, k, n =>
    if 0 ≤ k ∧ k < L.length then
      let t := (tk L k.toNat).t
      let n1 := if t = ⟨#[40]⟩ ∨ t = ⟨#[123]⟩ then n + 1 else n
      let n2 := if t = ⟨#[41]⟩ ∨ t = ⟨#[125]⟩ then n1 - 1 else n1
      if n2 = 0 then k else mateF L st d f (k + st) n2
    else d

def wordG (L : List Tk) (t : ByteArray) : Nat → List Nat
  | 0 => []
  | d + 1 => if isB L (L.length - (d + 1) : Nat) t then namesF L (L.length - (d + 1) + 1) else wordG L t d
def wordF (L : List Tk) (t : ByteArray) (k : Nat) : List Nat := wordG L t (L.length - k)
theorem wordF_eq (L : List Tk) (t : ByteArray) (k : Nat) : wordF L t k = if k < L.length then if isB L k t then namesF L (k + 1) else wordF L t (k + 1) else [] := by
  unfold wordF
  by_cases hk : k < L.length
  · have e : L.length - k = (L.length - (k + 1)) + 1 := by omega
    have e2 : L.length - ((L.length - (k + 1)) + 1) = k := by omega
    rw [if_pos hk, e, wordG, e2]
  · rw [if_neg hk, show L.length - k = 0 by omega]; rfl

def procsG (L : List Tk) : Nat → List Nat
  | 0 => []
  | d + 1 => if isB L (L.length - (d + 1) : Nat) ⟨#[112, 114, 111, 99]⟩ then (L.length - (d + 1) + 1) :: procsG L d else procsG L d
def procsF (L : List Tk) (k : Nat) : List Nat := procsG L (L.length - k)
theorem procsF_eq (L : List Tk) (k : Nat) : procsF L k = if k < L.length then if isB L k ⟨#[112, 114, 111, 99]⟩ then (k + 1) :: procsF L (k + 1) else procsF L (k + 1) else [] := by
  unfold procsF
  by_cases hk : k < L.length
  · have e : L.length - k = (L.length - (k + 1)) + 1 := by omega
    have e2 : L.length - ((L.length - (k + 1)) + 1) = k := by omega
    rw [if_pos hk, e, procsG, e2]
  · rw [if_neg hk, show L.length - k = 0 by omega]; rfl

def wordB (L : List Tk) (t : ByteArray) : List Nat := wordF L t 0
def procsB (L : List Tk) : List Nat := procsF L 0
def paramsB (L : List Tk) (i : Nat) : List Nat := namesF L (i + 2)
def kShared : ByteArray := ⟨#[115, 104, 97, 114, 101, 100]⟩
def kLocks : ByteArray := ⟨#[108, 111, 99, 107, 115]⟩
def kThreads : ByteArray := ⟨#[116, 104, 114, 101, 97, 100, 115]⟩
def ownersB (L : List Tk) : List Nat := wordB L kShared ++ wordB L kLocks ++ procsB L

theorem wordF_lt (L : List Tk) (t : ByteArray) (k : Nat) : ∀ j ∈ wordF L t k, j < L.length := by
  induction h : L.length - k using Nat.strongRecOn generalizing k with
  | ind n ih =>
    intro j hj
    rw [wordF_eq] at hj
    by_cases h1 : k < L.length
    · rw [if_pos h1] at hj
      by_cases h2 : isB L k t
      · rw [if_pos h2] at hj; exact (namesF_lt L (k + 1) j hj).2
      · rw [if_neg h2] at hj; exact ih (L.length - (k + 1)) (by omega) (k + 1) rfl j hj
    · rw [if_neg h1] at hj; cases hj
theorem wordF_len (L : List Tk) (t : ByteArray) (k : Nat) : (wordF L t k).length ≤ L.length := by
  induction h : L.length - k using Nat.strongRecOn generalizing k with
  | ind n ih =>
    rw [wordF_eq]
    by_cases h1 : k < L.length
    · rw [if_pos h1]
      by_cases h2 : isB L k t
      · rw [if_pos h2]; have := namesF_len L (k + 1); omega
      · rw [if_neg h2]; exact ih (L.length - (k + 1)) (by omega) (k + 1) rfl
    · rw [if_neg h1]; exact Nat.zero_le _

def ProcOk (L : List Tk) : Prop := ∀ k : Nat, isB L k ⟨#[112, 114, 111, 99]⟩ = true → k + 1 < L.length

theorem procsF_lt {L : List Tk} (hp : ProcOk L) (k : Nat) : ∀ j ∈ procsF L k, j < L.length := by
  induction h : L.length - k using Nat.strongRecOn generalizing k with
  | ind n ih =>
    intro j hj
    rw [procsF_eq] at hj
    by_cases h1 : k < L.length
    · rw [if_pos h1] at hj
      by_cases h2 : isB L k ⟨#[112, 114, 111, 99]⟩
      · rw [if_pos h2] at hj
        rcases List.mem_cons.1 hj with rfl | hj
        · exact hp k h2
        · exact ih (L.length - (k + 1)) (by omega) (k + 1) rfl j hj
      · rw [if_neg h2] at hj; exact ih (L.length - (k + 1)) (by omega) (k + 1) rfl j hj
    · rw [if_neg h1] at hj; cases hj
theorem procsF_len (L : List Tk) (k : Nat) : (procsF L k).length ≤ L.length - k := by
  induction h : L.length - k using Nat.strongRecOn generalizing k with
  | ind n ih =>
    rw [procsF_eq]
    by_cases h1 : k < L.length
    · rw [if_pos h1]
      have := ih (L.length - (k + 1)) (by omega) (k + 1) rfl
      by_cases h2 : isB L k ⟨#[112, 114, 111, 99]⟩
      · rw [if_pos h2, List.length_cons]; omega
      · rw [if_neg h2]; omega
    · rw [if_neg h1]; exact Nat.zero_le _

def valuesF (L : List Tk) (e : Int) : Nat → Nat → Int → Int → Int
  | 0, _, _, n => n
  | f + 1, k, op, n =>
    if (k : Int) < e then
      let op1 := if isB L k ⟨#[40]⟩ then op + 1 else op
      let op2 := if isB L k ⟨#[41]⟩ then op1 - 1 else op1
      let n1 := if isB L k ⟨#[44]⟩ && decide (op2 = 1) then n + 1 else n
      valuesF L e f (k + 1) op2 n1
    else n

def mateB (L : List Tk) (i : Nat) : Int := mateF L (if isB L i ⟨#[41]⟩ || isB L i ⟨#[125]⟩ then -1 else 1) i (L.length + 1) i 0
def valuesB (L : List Tk) (i : Nat) : Int := if mateB L i = i + 1 then 0 else valuesF L (mateB L i) (L.length + 1) i 0 1

end RR

/- More plain functions: the checks on names. No Go here. -/
namespace RR

def manyF (L : List Tk) (at_ : Int) : List Nat → Int
  | [] => at_
  | i :: r => manyF L (leastB at_ (pastB L (paramsB L i) 3)) r

def manyB (L : List Tk) : Int :=
  leastB (manyF L (leastB (leastB (pastB L (wordB L ⟨#[115, 104, 97, 114, 101, 100]⟩) 4) (pastB L (wordB L ⟨#[108, 111, 99, 107, 115]⟩) 3)) (pastB L (procsB L) 4)) (procsB L)) (pastB L (wordB L ⟨#[116, 104, 114, 101, 97, 100, 115]⟩) 3)

def tw1G (L : List Tk) (l : List Nat) : Nat → Int → Int
  | 0, x => x
  | d + 1, x => tw1G L l d (if 0 ≤ indexB L (l.take (l.length - (d + 1))) (tk L (nth l (l.length - (d + 1)))).t then leastB x (tk L (nth l (l.length - (d + 1)))).p else x)
def tw1 (L : List Tk) (l : List Nat) (k : Nat) (x : Int) : Int := tw1G L l (l.length - k) x
theorem tw1_eq (L : List Tk) (l : List Nat) (k : Nat) (x : Int) : tw1 L l k x = if k < l.length then tw1 L l (k + 1) (if 0 ≤ indexB L (l.take k) (tk L (nth l k)).t then leastB x (tk L (nth l k)).p else x) else x := by
  unfold tw1
  by_cases hk : k < l.length
  · have e : l.length - k = (l.length - (k + 1)) + 1 := by omega
    have e2 : l.length - ((l.length - (k + 1)) + 1) = k := by omega
    rw [if_pos hk, e, tw1G, e2]
  · rw [if_neg hk, show l.length - k = 0 by omega]; rfl

def tw2G (L : List Tk) (l m : List Nat) : Nat → Int → Int
  | 0, x => x
  | d + 1, x => tw2G L l m d (if 0 ≤ indexB L (m.take (m.length - (d + 1))) (tk L (nth m (m.length - (d + 1)))).t ∨ 0 ≤ indexB L l (tk L (nth m (m.length - (d + 1)))).t then leastB x (tk L (nth m (m.length - (d + 1)))).p else x)
def tw2 (L : List Tk) (l m : List Nat) (k : Nat) (x : Int) : Int := tw2G L l m (m.length - k) x
theorem tw2_eq (L : List Tk) (l m : List Nat) (k : Nat) (x : Int) : tw2 L l m k x = if k < m.length then tw2 L l m (k + 1) (if 0 ≤ indexB L (m.take k) (tk L (nth m k)).t ∨ 0 ≤ indexB L l (tk L (nth m k)).t then leastB x (tk L (nth m k)).p else x) else x := by
  unfold tw2
  by_cases hk : k < m.length
  · have e : m.length - k = (m.length - (k + 1)) + 1 := by omega
    have e2 : m.length - ((m.length - (k + 1)) + 1) = k := by omega
    rw [if_pos hk, e, tw2G, e2]
  · rw [if_neg hk, show m.length - k = 0 by omega]; rfl

def tw3 (L : List Tk) (l : List Nat) : List Nat → Int → Int
  | [], x => x
  | i :: r, x => tw3 L l r (tw2 L l (paramsB L i) 0 x)

def twiceB (L : List Tk) : Int := tw3 L (ownersB L) (procsB L) (tw1 L (ownersB L) 0 (-1))

theorem ownersB_lt {L : List Tk} (hp : ProcOk L) : ∀ j ∈ ownersB L, j < L.length := by
  intro j hj
  unfold ownersB at hj
  rcases List.mem_append.1 hj with hj | hj
  · rcases List.mem_append.1 hj with hj | hj
    · exact wordF_lt _ _ _ j hj
    · exact wordF_lt _ _ _ j hj
  · exact procsF_lt hp 0 j hj
theorem ownersB_len (L : List Tk) : (ownersB L).length ≤ 3 * L.length := by
  have h1 := wordF_len L kShared 0
  have h2 := wordF_len L kLocks 0
  have h3 := procsF_len L 0
  unfold ownersB wordB procsB
  rw [List.length_append, List.length_append]; omega

end RR

/- More plain functions: is a name given, is it right. No Go here. -/
namespace RR

def givenB (L : List Tk) (i : Nat) : Bool := hasB (ownersB L) i || (procsB L).any fun j => hasB (paramsB L j) i

def givenF (L : List Tk) (i : Nat) (l : List Nat) : Bool := l.any fun j => hasB (paramsB L j) i

def rightB (L : List Tk) (i : Nat) : Bool :=
  if isB L ((i : Int) - 1) ⟨#[97, 99, 113, 117, 105, 114, 101]⟩ || isB L ((i : Int) - 1) ⟨#[114, 101, 108, 101, 97, 115, 101]⟩ then decide (0 ≤ indexB L (wordB L ⟨#[108, 111, 99, 107, 115]⟩) (tk L i).t)
  else if hasB (wordB L ⟨#[116, 104, 114, 101, 97, 100, 115]⟩) i || isB L ((i : Int) + 1) ⟨#[40]⟩ then decide (0 ≤ indexB L (procsB L) (tk L i).t)
  else decide (0 ≤ indexB L (wordB L ⟨#[115, 104, 97, 114, 101, 100]⟩) (tk L i).t) || decide (0 ≤ indexB L (paramsB L (homeB L i)) (tk L i).t)

theorem homeB_le (L : List Tk) (i : Nat) : homeB L i ≤ i := by
  induction i with
  | zero => exact Nat.le_refl _
  | succ k ih => rw [homeB]; split <;> omega

theorem mateF_bd (L : List Tk) (st : Int) (d : Nat) (hd : d ≤ 500) (hL : L.length ≤ 500) : ∀ (f : Nat) (k n : Int), 0 ≤ mateF L st d f k n ∧ mateF L st d f k n ≤ 500 ∧ (mateF L st d f k n < L.length ∨ mateF L st d f k n = d) := by
  intro f
  induction f with
  | zero => intro k n; rw [mateF]; omega
  | succ f ih =>
    intro k n
    rw [mateF]
    by_cases h : 0 ≤ k ∧ k < L.length
    · rw [if_pos h]
      dsimp only
      generalize (if (tk L k.toNat).t = ⟨#[41]⟩ ∨ (tk L k.toNat).t = ⟨#[125]⟩ then (if (tk L k.toNat).t = ⟨#[40]⟩ ∨ (tk L k.toNat).t = ⟨#[123]⟩ then n + 1 else n) - 1 else if (tk L k.toNat).t = ⟨#[40]⟩ ∨ (tk L k.toNat).t = ⟨#[123]⟩ then n + 1 else n) = n2
      by_cases hz : n2 = 0
      · rw [if_pos hz]; omega
      · rw [if_neg hz]; exact ih _ _
    · rw [if_neg h]; omega

theorem mateB_bd (L : List Tk) (i : Nat) (hi : i ≤ 500) (hL : L.length ≤ 500) : 0 ≤ mateB L i ∧ mateB L i ≤ 500 ∧ (mateB L i < L.length ∨ mateB L i = i) := mateF_bd L _ i hi hL _ _ _

theorem isB_two {L : List Tk} {k : Nat} {a c : ByteArray} (h : isB L k a = true) (hne : a ≠ c) : isB L k c = false := by
  unfold isB at *
  simp only [Bool.and_eq_true, decide_eq_true_iff] at h
  rw [h.2, decide_eq_false hne, Bool.and_false]

theorem val_step (L : List Tk) (e : Int) (f k : Nat) (op n : Int) (h : (k : Int) < e) : ∃ d m : Int, valuesF L e (f + 1) k op n = valuesF L e f (k + 1) (op + d) (n + m) ∧
    ((isB L k ⟨#[40]⟩ = true ∧ isB L k ⟨#[41]⟩ = false ∧ isB L k ⟨#[44]⟩ = false ∧ d = 1 ∧ m = 0) ∨ (isB L k ⟨#[40]⟩ = false ∧ isB L k ⟨#[41]⟩ = true ∧ isB L k ⟨#[44]⟩ = false ∧ d = -1 ∧ m = 0) ∨
     (isB L k ⟨#[40]⟩ = false ∧ isB L k ⟨#[41]⟩ = false ∧ isB L k ⟨#[44]⟩ = true ∧ d = 0 ∧ op = 1 ∧ m = 1) ∨ (isB L k ⟨#[40]⟩ = false ∧ isB L k ⟨#[41]⟩ = false ∧ isB L k ⟨#[44]⟩ = true ∧ d = 0 ∧ op ≠ 1 ∧ m = 0) ∨
     (isB L k ⟨#[40]⟩ = false ∧ isB L k ⟨#[41]⟩ = false ∧ isB L k ⟨#[44]⟩ = false ∧ d = 0 ∧ m = 0)) := by
  rw [valuesF, if_pos h]
  dsimp only
  cases h1 : isB L k ⟨#[40]⟩
  · cases h2 : isB L k ⟨#[41]⟩
    · cases h3 : isB L k ⟨#[44]⟩
      · exact ⟨0, 0, by simp, by simp⟩
      · by_cases h4 : op = 1
        · subst h4; exact ⟨0, 1, by simp, by simp⟩
        · exact ⟨0, 0, by simp [h4], by simp [h4]⟩
    · have h3 := isB_two (c := ⟨#[44]⟩) h2 (by decide)
      exact ⟨-1, 0, by simp [h3, Int.sub_eq_add_neg], by simp [h3]⟩
  · have h2 := isB_two (c := ⟨#[41]⟩) h1 (by decide)
    have h3 := isB_two (c := ⟨#[44]⟩) h1 (by decide)
    exact ⟨1, 0, by simp [h2, h3], by simp [h2, h3]⟩

end RR

/- More plain functions: the reference's check as a whole. No Go here. -/
namespace RR

def misG (L : List Tk) : Nat → Option Nat
  | 0 => none
  | d + 1 => if isNameB (tk L (L.length - (d + 1))).t && !givenB L (L.length - (d + 1)) && !rightB L (L.length - (d + 1)) then some (tk L (L.length - (d + 1))).p else misG L d
def misF (L : List Tk) (i : Nat) : Option Nat := misG L (L.length - i)
theorem misF_eq (L : List Tk) (i : Nat) : misF L i = if h : i < L.length then if isNameB L[i].t && !givenB L i && !rightB L i then some L[i].p else misF L (i + 1) else none := by
  unfold misF
  by_cases hk : i < L.length
  · have e : L.length - i = (L.length - (i + 1)) + 1 := by omega
    have e2 : L.length - ((L.length - (i + 1)) + 1) = i := by omega
    rw [dif_pos hk, e, misG, e2, tk_eq hk]
  · rw [dif_neg hk, show L.length - i = 0 by omega]; rfl

def procOf (L : List Tk) (i : Nat) : Nat := nth (procsB L) (indexB L (procsB L) (tk L i).t).toNat

def ariG (L : List Tk) : Nat → Option Nat
  | 0 => none
  | d + 1 => if isNameB (tk L (L.length - (d + 1))).t && !givenB L (L.length - (d + 1)) && isB L (((L.length - (d + 1) : Nat) : Int) + 1) ⟨#[40]⟩ && decide (valuesB L (L.length - (d + 1) + 1) ≠ (paramsB L (procOf L (L.length - (d + 1)))).length) then some (tk L (L.length - (d + 1))).p else ariG L d
def ariF (L : List Tk) (i : Nat) : Option Nat := ariG L (L.length - i)
theorem ariF_eq (L : List Tk) (i : Nat) : ariF L i = if h : i < L.length then if isNameB L[i].t && !givenB L i && isB L ((i : Int) + 1) ⟨#[40]⟩ && decide (valuesB L (i + 1) ≠ (paramsB L (procOf L i)).length) then some L[i].p else ariF L (i + 1) else none := by
  unfold ariF
  by_cases hk : i < L.length
  · have e : L.length - i = (L.length - (i + 1)) + 1 := by omega
    have e2 : L.length - ((L.length - (i + 1)) + 1) = i := by omega
    rw [dif_pos hk, e, ariG, e2, tk_eq hk]
  · rw [dif_neg hk, show L.length - i = 0 by omega]; rfl

def namesCheck (L : List Tk) : Int × Int :=
  if 0 ≤ manyB L then (4, manyB L) else if 0 ≤ twiceB L then (5, twiceB L) else
    match misF L 0 with
    | some p => (5, p)
    | none => match ariF L 0 with
      | some p => (6, p)
      | none => (0, 0)

theorem misF_out {L : List Tk} {i : Nat} (h : ¬ i < L.length) : misF L i = none := by rw [misF_eq, dif_neg h]
theorem misF_no {L : List Tk} {i : Nat} (h : i < L.length) (h2 : (isNameB L[i].t && !givenB L i && !rightB L i) = false) : misF L i = misF L (i + 1) := by rw [misF_eq, dif_pos h, h2]; rfl
theorem misF_yes {L : List Tk} {i : Nat} (h : i < L.length) (h2 : (isNameB L[i].t && !givenB L i && !rightB L i) = true) : misF L i = some L[i].p := by rw [misF_eq, dif_pos h, h2]; rfl
theorem ariF_out {L : List Tk} {i : Nat} (h : ¬ i < L.length) : ariF L i = none := by rw [ariF_eq, dif_neg h]
theorem ariF_no {L : List Tk} {i : Nat} (h : i < L.length) (h2 : (isNameB L[i].t && !givenB L i && isB L ((i : Int) + 1) ⟨#[40]⟩ && decide (valuesB L (i + 1) ≠ (paramsB L (procOf L i)).length)) = false) : ariF L i = ariF L (i + 1) := by rw [ariF_eq, dif_pos h, h2]; rfl
theorem ariF_yes {L : List Tk} {i : Nat} (h : i < L.length) (h2 : (isNameB L[i].t && !givenB L i && isB L ((i : Int) + 1) ⟨#[40]⟩ && decide (valuesB L (i + 1) ≠ (paramsB L (procOf L i)).length)) = true) : ariF L i = some L[i].p := by rw [ariF_eq, dif_pos h, h2]; rfl

def CallOk (L : List Tk) : Prop := ∀ i, (h : i < L.length) → isNameB L[i].t = true → givenB L i = false → isB L ((i : Int) + 1) ⟨#[40]⟩ = true → rightB L i = true → 0 ≤ indexB L (procsB L) L[i].t

theorem misF_none {L : List Tk} (i : Nat) (h : misF L i = none) : ∀ j, i ≤ j → (hj : j < L.length) → (isNameB L[j].t && !givenB L j && !rightB L j) = false := by
  induction hn : L.length - i using Nat.strongRecOn generalizing i with
  | ind n ih =>
    intro j hij hj
    have hi : i < L.length := by omega
    cases h2 : (isNameB L[i].t && !givenB L i && !rightB L i)
    · rw [misF_no hi h2] at h
      by_cases e : i = j
      · subst e; exact h2
      · exact ih (L.length - (i + 1)) (by omega) (i + 1) h rfl j (by omega) hj
    · rw [misF_yes hi h2] at h; cases h

theorem indexB_lt (L : List Tk) (l : List Nat) (t : ByteArray) : indexB L l t < l.length ∧ -1 ≤ indexB L l t := by
  unfold indexB
  cases h : l.findIdx? fun j => decide ((tk L j).t = t) with
  | none => exact ⟨by show (-1 : Int) < _; omega, by show (-1 : Int) ≤ -1; omega⟩
  | some k =>
    have := List.findIdx?_eq_some_iff_getElem.1 h
    obtain ⟨h1, _⟩ := this
    exact ⟨by show ((k : Nat) : Int) < _; omega, by show (-1 : Int) ≤ (k : Nat); omega⟩

end RR

namespace Go.Proofs.YtmfcpbhdggonfaaGreatDoor
open Go.RowKit RR

def StrsAt (w : World) (b o : Nat) (l : List ByteArray) : Prop := ∀ i, (h : i < l.length) → w.cell? ⟨b, o + i, none⟩ = some (.string l[i])

theorem strs_alloc {w : World} {e : TypeId} (l : List ByteArray) (vs : Array Value) (h : vs.toList = l.map Value.string) : StrsAt (w.alloc (.cells vs e)) w.heap.size 0 l := by
  intro i hi
  have hh : (w.alloc (.cells vs e)).heap[w.heap.size]? = some (.cells vs e) := heap_alloc_new w _
  have hv : vs[i]? = some (.string l[i]) := by
    rw [← Array.getElem?_toList, h, List.getElem?_map, List.getElem?_eq_getElem hi]; rfl
  simp only [World.cell?, hh, Nat.zero_add]
  exact hv

theorem kws_at {w : World} : StrsAt (w.alloc (.cells #[.string ⟨#[115, 104, 97, 114, 101, 100]⟩, .string ⟨#[108, 111, 99, 107, 115]⟩, .string ⟨#[112, 114, 111, 99]⟩, .string ⟨#[116, 104, 114, 101, 97, 100, 115]⟩, .string ⟨#[105, 102]⟩, .string ⟨#[101, 108, 115, 101]⟩, .string ⟨#[119, 104, 105, 108, 101]⟩, .string ⟨#[97, 115, 115, 117, 109, 101]⟩, .string ⟨#[97, 99, 113, 117, 105, 114, 101]⟩, .string ⟨#[114, 101, 108, 101, 97, 115, 101]⟩, .string ⟨#[114, 101, 116, 117, 114, 110]⟩, .string ⟨#[115, 107, 105, 112]⟩, .string ⟨#[116, 114, 117, 101]⟩, .string ⟨#[102, 97, 108, 115, 101]⟩] 9)) w.heap.size 0 kws :=
  strs_alloc kws _ rfl

end Go.Proofs.YtmfcpbhdggonfaaGreatDoor

namespace Go.Proofs.YtmfcpbhdggonfaaGreatDoor
open Go.RowKit RR

def ToksAt (w : World) (b o : Nat) (L : List Tk) : Prop :=
  b < w.heap.size ∧ ∀ i, (h : i < L.length) → w.cell? ⟨b, o + i * 2, none⟩ = some (.string L[i].t) ∧ w.cell? ⟨b, o + i * 2 + 1, none⟩ = some (.int .i64 L[i].p)

theorem ToksAt.below {w w' : World} {b o : Nat} {L : List Tk} (h : ToksAt w b o L) (hb : Below w.heap.size w w') : ToksAt w' b o L :=
  ⟨Nat.lt_of_lt_of_le h.1 hb.size, fun i hi => ⟨(hb.cell (p := ⟨b, o + i * 2, none⟩) h.1).trans (h.2 i hi).1, (hb.cell (p := ⟨b, o + i * 2 + 1, none⟩) h.1).trans (h.2 i hi).2⟩⟩

theorem below_drewN (B : Nat) (w : World) (n : Nat) : Below B w (w.drewN n) := ⟨rfl, rfl, rfl, Nat.le_refl _, fun _ _ => rfl⟩

def IntSl (w : World) (ao : Option Addr) (cap : Nat) (l : List Nat) : Prop := (ao = none → cap = 0) ∧ l.length ≤ cap ∧ ∀ i, (h : i < l.length) → ∃ b o, b < w.heap.size ∧ ao = some ⟨b, o, none⟩ ∧ w.cell? ⟨b, o + i, none⟩ = some (.int .i64 l[i])

theorem IntSl.below {w w' : World} {ao : Option Addr} {cap : Nat} {l : List Nat} (h : IntSl w ao cap l) (hb : Below w.heap.size w w') : IntSl w' ao cap l := ⟨h.1, h.2.1, fun i hi => by
  obtain ⟨b, o, h1, h2, h3⟩ := h.2.2 i hi
  exact ⟨b, o, Nat.lt_of_lt_of_le h1 hb.size, h2, (hb.cell (p := ⟨b, o + i, none⟩) h1).trans h3⟩⟩

end Go.Proofs.YtmfcpbhdggonfaaGreatDoor

namespace Go.Proofs.YtmfcpbhdggonfaaGreatDoor
open Go.RowKit RR

theorem bx {w wr : World} {T : TypeId} {v : Value} (hb : Below (w.heap.size + 1) (w.alloc (.cells #[v] T)) wr) : wr.cell? ⟨w.heap.size, 0, none⟩ = some v ∧ w.heap.size < wr.heap.size ∧ Below w.heap.size w wr := by
  have h1 : (w.alloc (.cells #[v] T)).cell? ⟨w.heap.size, 0, none⟩ = some v := by simp
  have h2 := hb.size
  refine ⟨(hb.cell (p := ⟨w.heap.size, 0, none⟩) (Nat.lt_succ_self _)).trans h1, ?_, ((Below.refl _ _).alloc (Nat.le_refl _) _).trans (hb.mono (Nat.le_succ _))⟩
  simp at h2; omega

theorem Tryz.infoInt : (Tryz.prog.info? 3).map (fun i => (i.zero, i.size, i.bytes)) = some (some (.int .i64 0), 1, 8) := by kernel_rfl

theorem intSl_of_owns {w : World} {base : Nat} {v : Value} {l : List Nat} (h : w.ownsRow base 3 1 v l.length (ints l)) : ∃ ao cap, v = .slice ao l.length cap ∧ IntSl w ao cap l := by
  obtain ⟨h1, h2 | ⟨g, cap, cur, hv, hb, hh, hcap, hmax, hsz, htk⟩⟩ := h
  · refine ⟨none, 0, ?_, fun _ => rfl, by omega, fun i hi => by omega⟩
    rw [h2.1, h2.2]
  · refine ⟨some ⟨g, 0, none⟩, cap, hv, fun h => by simp at h, hcap, fun i hi => ⟨g, 0, (Array.getElem?_eq_some_iff.1 hh).1, rfl, ?_⟩⟩
    have e1 : cur[i]? = some (.int .i64 l[i]) := by
      have e2 : (cur.toList.take (l.length * 1))[i]? = (ints l)[i]? := by rw [htk]
      rw [List.getElem?_take_of_lt (by omega), Array.getElem?_toList] at e2
      rw [e2, ints, List.getElem?_map, List.getElem?_eq_getElem hi]; rfl
    simp only [World.cell?, hh, Nat.zero_add]
    exact e1

theorem owns_below {w w' : World} {base : Nat} {e : TypeId} {size : Nat} {v : Value} {n : Nat} {xs : List Value} (h : w.ownsRow base e size v n xs) (hb : Below w.heap.size w w') : w'.ownsRow base e size v n xs := by
  refine ⟨h.1, ?_⟩
  rcases h.2 with h2 | ⟨g, cap, cur, hv, hg, hh, r⟩
  · exact .inl h2
  · exact .inr ⟨g, cap, cur, hv, hg, by rw [hb.block g (Array.getElem?_eq_some_iff.1 hh).1]; exact hh, r⟩

theorem ret_ints {w wr : World} {base : Nat} {v : Value} {l l' : List Nat} (h : wr.ownsRow base 3 1 v l.length (ints l)) (e : l = l') (hb : Below w.heap.size w wr) : ∃ ao cap, Ending.returned v = .returned (.slice ao l'.length cap) ∧ IntSl wr ao cap l' ∧ Below w.heap.size w wr := by
  subst e
  obtain ⟨ao, cap, rfl, hs⟩ := intSl_of_owns h
  exact ⟨ao, cap, rfl, hs, hb⟩

theorem one_cell {w : World} {T : TypeId} {x : Value} : ∀ (j : Nat) (u : Value), [x][j]? = some u → (w.alloc (.cells #[x] T)).cell? ((⟨w.heap.size, 0, none⟩ : Addr).add j) = some u := by
  intro j u hj
  match j, hj with
  | 0, hj => simp at hj; subst hj; simp [Addr.add]

theorem int_one {k : Int} : ∀ u ∈ [Value.int .i64 k], u.oneCell' = true := by intro u hu; simp at hu; subst hu; rfl

theorem app_int {ops : Array Oper} {rest : List Oper} {o : Oper} {a : Act} {Q : Exit → Act → World → Prop} {w0 : World} {B : Nat} {v : Value} {l : List Nat} (k : Nat)
    (hown : w0.ownsRow B 3 1 v l.length (ints l)) (hl : l.length ≤ 100000) (hB : B ≤ w0.heap.size) (hgd : o.guard = none) (s x : Operand)
    (ho : o.op = .call { callee := .builtin .append, args := #[s, x], argTypes := #[93, 93] }) (hs : a.eval s = v)
    (hx : a.eval x = .slice (some ⟨w0.heap.size, 0, none⟩) 1 1)
    (h : ∀ v' w', w'.ownsRow B 3 1 v' (l ++ [k]).length (ints (l ++ [k])) → (∀ a0, Below B a0 w0 → Below B a0 w') → wpList Tryz.prog ops Q rest (a.put o.dst v') w') :
    wpList Tryz.prog ops Q (o :: rest) a (w0.alloc (.cells #[.int .i64 k] 3)) := by
  obtain ⟨i0, hi0, hz0, hz1, hz2⟩ := info_parts Tryz.infoInt
  refine wpList_append_own _ hgd s x 93 ho B 3 i0 (.int .i64 0) 1 8 Tryz.underlying93 hi0 hz0 hz1 hz2 rfl (by decide) v l.length (ints l) hs (hown.alloc _) ⟨w0.heap.size, 0, none⟩ 1 1 [.int .i64 k] hx rfl one_cell int_one (by unfold maxLen; omega) (by omega) (by simp; omega) ?_
  intro v' w' h1 h2 _
  refine h v' w' ?_ fun a0 h0 => (h0.alloc hB _).grown h2 (by simp; omega) fun k hk => (hown.lt k hk).1
  rw [ints_append, List.length_append]; exact h1

theorem namesF_out {L : List Tk} {k : Nat} (h : ¬ k < L.length) : namesF L k = [] := by rw [namesF_eq, if_neg h]
theorem namesF_no {L : List Tk} {k : Nat} (h : k < L.length) (h2 : isNameB L[k].t = false) : namesF L k = [] := by rw [namesF_eq, if_pos h, tk_eq h, h2]; rfl
theorem namesF_last {L : List Tk} {k : Nat} (h : k < L.length) (h2 : isNameB L[k].t = true) (h3 : isB L (k + 1 : Nat) ⟨#[44]⟩ = false) : namesF L k = [k] := by rw [namesF_eq, if_pos h, tk_eq h, h2, h3]; rfl
theorem namesF_more {L : List Tk} {k : Nat} (h : k < L.length) (h2 : isNameB L[k].t = true) (h3 : isB L (k + 1 : Nat) ⟨#[44]⟩ = true) : namesF L k = k :: namesF L (k + 2) := by rw [namesF_eq, if_pos h, tk_eq h, h2, h3]; rfl

end Go.Proofs.YtmfcpbhdggonfaaGreatDoor

namespace Go.Proofs.YtmfcpbhdggonfaaGreatDoor
open Go.RowKit RR

theorem go_below {w w1 : World} {ao : Option Addr} {cap : Nat} {l l' : List Nat} (h : IntSl w1 ao cap l) (e : l = l') (hb : Below w.heap.size w w1) : ∃ ao' cap', Ending.returned (.slice ao l.length cap) = .returned (.slice ao' l'.length cap') ∧ IntSl w1 ao' cap' l' ∧ Below w.heap.size w w1 := by
  subst e; exact ⟨ao, cap, rfl, h, hb⟩

theorem wordF_out {L : List Tk} {t : ByteArray} {k : Nat} (h : ¬ k < L.length) : wordF L t k = [] := by rw [wordF_eq, if_neg h]
theorem wordF_yes {L : List Tk} {t : ByteArray} {k : Nat} (h : k < L.length) (h2 : isB L k t = true) : wordF L t k = namesF L (k + 1) := by rw [wordF_eq, if_pos h, h2]; rfl
theorem wordF_no {L : List Tk} {t : ByteArray} {k : Nat} (h : k < L.length) (h2 : isB L k t = false) : wordF L t k = wordF L t (k + 1) := by rw [wordF_eq, if_pos h, h2]; rfl

theorem procsF_out {L : List Tk} {k : Nat} (h : ¬ k < L.length) : procsF L k = [] := by rw [procsF_eq, if_neg h]
theorem procsF_yes {L : List Tk} {k : Nat} (h : k < L.length) (h2 : isB L k ⟨#[112, 114, 111, 99]⟩ = true) : procsF L k = (k + 1) :: procsF L (k + 1) := by rw [procsF_eq, if_pos h, h2]; rfl
theorem procsF_no {L : List Tk} {k : Nat} (h : k < L.length) (h2 : isB L k ⟨#[112, 114, 111, 99]⟩ = false) : procsF L k = procsF L (k + 1) := by rw [procsF_eq, if_pos h, h2]; rfl

theorem addr_add (b o j : Nat) : (⟨b, o, none⟩ : Addr).add j = ⟨b, o + j, none⟩ := by
  unfold Addr.add
  by_cases h : j = 0
  · rw [if_pos h, h]; rfl
  · rw [if_neg h]

theorem nil_ints (w : World) (B : Nat) : w.ownsRow B 3 1 (.slice none 0 0) ([] : List Nat).length (ints []) := World.ownsRow_nil _ _ _ _

theorem app_ints {ops : Array Oper} {rest : List Oper} {o : Oper} {a : Act} {Q : Exit → Act → World → Prop} {w0 : World} {B : Nat} {v : Value} {l l2 : List Nat} {ao : Option Addr} {cap : Nat}
    (hown : w0.ownsRow B 3 1 v l.length (ints l)) (hi : IntSl w0 ao cap l2) (hl : l.length ≤ 100000) (hl2 : l2.length ≤ 100000) (hB : B ≤ w0.heap.size) (hgd : o.guard = none) (s x : Operand)
    (ho : o.op = .call { callee := .builtin .append, args := #[s, x], argTypes := #[93, 93] }) (hs : a.eval s = v)
    (hx : a.eval x = .slice ao l2.length cap)
    (h : ∀ v' w', w'.ownsRow B 3 1 v' (l ++ l2).length (ints (l ++ l2)) → (∀ a0, Below B a0 w0 → Below B a0 w') → wpList Tryz.prog ops Q rest (a.put o.dst v') w') :
    wpList Tryz.prog ops Q (o :: rest) a w0 := by
  obtain ⟨i0, hi0, hz0, hz1, hz2⟩ := info_parts Tryz.infoInt
  cases ao with
  | none =>
    have h0 : l2 = [] := by
      cases l2 with
      | nil => rfl
      | cons y r => obtain ⟨_, _, _, h2, _⟩ := hi.2.2 0 (by simp); cases h2
    subst h0
    refine wpList_append_own_none hgd s x 93 ho B 3 i0 1 Tryz.underlying93 hi0 v l.length (ints l) hs hown (by rw [hx, hi.1 rfl]; rfl) ?_
    refine h v w0 ?_ fun a0 h0 => h0
    rw [List.append_nil]; exact hown
  | some ad =>
    refine wpList_append_own _ hgd s x 93 ho B 3 i0 (.int .i64 0) 1 8 Tryz.underlying93 hi0 hz0 hz1 hz2 rfl (by decide) v l.length (ints l) hs hown ad l2.length cap (ints l2) hx (by rw [ints_length, Nat.mul_one]) ?_ ?_ (by unfold maxLen; omega) (by omega) hB ?_
    · intro j u hj
      have hjl : j < l2.length := by
        have := (List.getElem?_eq_some_iff.1 hj).1
        rwa [ints_length] at this
      obtain ⟨b, o', h1, h2, h3⟩ := hi.2.2 j hjl
      have h2' := Option.some.inj h2
      subst h2'
      have hu : u = .int .i64 l2[j] := by
        rw [ints, List.getElem?_map, List.getElem?_eq_getElem hjl] at hj
        exact (Option.some.inj hj).symm
      subst hu
      rw [addr_add]; exact h3
    · intro u hu
      obtain ⟨n, _, rfl⟩ := List.mem_map.1 hu
      rfl
    · intro v' w' h1 h2 _
      refine h v' w' ?_ fun a0 h0 => h0.grown h2 hB fun k hk => (hown.lt k hk).1
      rw [ints_append, List.length_append]; exact h1

theorem wordB_len (L : List Tk) (t : ByteArray) : (wordB L t).length ≤ L.length := wordF_len L t 0
theorem procsB_len (L : List Tk) : (procsB L).length ≤ L.length := Nat.le_trans (procsF_len L 0) (Nat.sub_le _ _)

theorem isB_lt {L : List Tk} {i : Nat} {t : ByteArray} (h : isB L (i : Int) t = true) : i < L.length := by
  by_cases h1 : i < L.length
  · exact h1
  · rw [isB_out (.inr (by omega))] at h; cases h

theorem mateF_out {L : List Tk} {st d : Int} {f : Nat} {k n : Int} (h : ¬ (0 ≤ k ∧ k < L.length)) : mateF L st d f k n = d := by
  cases f with
  | zero => rfl
  | succ f => rw [mateF, if_neg h]

theorem lit_eq (t : ByteArray) (c : ByteArray) (l : List UInt8) (h : c.toList = l) : (t.toList == l) = decide (t = c) := by rw [← h, seq_comm]
theorem l40 : (⟨#[40]⟩ : ByteArray).toList = [40] := by rw [bl]
theorem l41 : (⟨#[41]⟩ : ByteArray).toList = [41] := by rw [bl]
theorem l123 : (⟨#[123]⟩ : ByteArray).toList = [123] := by rw [bl]
theorem l125 : (⟨#[125]⟩ : ByteArray).toList = [125] := by rw [bl]

theorem mate_step {L : List Tk} {st d : Int} {f k : Nat} {n : Int} (h : k < L.length) : ∃ δ : Int, -1 ≤ δ ∧ δ ≤ 1 ∧ mateF L st d (f + 1) k n = (if n + δ = 0 then (k : Int) else mateF L st d f (k + st) (n + δ)) ∧
    (((L[k].t.toList == [40]) = true ∧ (L[k].t.toList == [41]) = false ∧ (L[k].t.toList == [125]) = false ∧ δ = 1) ∨ ((L[k].t.toList == [40]) = false ∧ (L[k].t.toList == [123]) = true ∧ (L[k].t.toList == [41]) = false ∧ (L[k].t.toList == [125]) = false ∧ δ = 1) ∨
     ((L[k].t.toList == [40]) = false ∧ (L[k].t.toList == [123]) = false ∧ (L[k].t.toList == [41]) = true ∧ δ = -1) ∨ ((L[k].t.toList == [40]) = false ∧ (L[k].t.toList == [123]) = false ∧ (L[k].t.toList == [41]) = false ∧ (L[k].t.toList == [125]) = true ∧ δ = -1) ∨
     ((L[k].t.toList == [40]) = false ∧ (L[k].t.toList == [123]) = false ∧ (L[k].t.toList == [41]) = false ∧ (L[k].t.toList == [125]) = false ∧ δ = 0)) := by
  have e : mateF L st d (f + 1) k n = (let n1 := if L[k].t = ⟨#[40]⟩ ∨ L[k].t = ⟨#[123]⟩ then n + 1 else n
      let n2 := if L[k].t = ⟨#[41]⟩ ∨ L[k].t = ⟨#[125]⟩ then n1 - 1 else n1
      if n2 = 0 then (k : Int) else mateF L st d f (k + st) n2) := by
    rw [mateF, if_pos ⟨by omega, by omega⟩, Int.toNat_natCast, tk_eq h]
  rw [e, lit_eq _ _ _ l40, lit_eq _ _ _ l41, lit_eq _ _ _ l123, lit_eq _ _ _ l125]
  generalize L[k].t = t
  by_cases a1 : t = ⟨#[40]⟩
  · subst a1
    exact ⟨1, by omega, by omega, by rfl, .inl ⟨by decide, by decide, by decide, rfl⟩⟩
  by_cases a2 : t = ⟨#[123]⟩
  · subst a2
    exact ⟨1, by omega, by omega, by rfl, .inr (.inl ⟨by decide, by decide, by decide, by decide, rfl⟩)⟩
  by_cases a3 : t = ⟨#[41]⟩
  · subst a3
    exact ⟨-1, by omega, by omega, by rfl, .inr (.inr (.inl ⟨by decide, by decide, by decide, rfl⟩))⟩
  by_cases a4 : t = ⟨#[125]⟩
  · subst a4
    exact ⟨-1, by omega, by omega, by rfl, .inr (.inr (.inr (.inl ⟨by decide, by decide, by decide, by decide, rfl⟩)))⟩
  refine ⟨0, by omega, by omega, ?_, .inr (.inr (.inr (.inr ⟨decide_eq_false a1, decide_eq_false a2, decide_eq_false a3, decide_eq_false a4, rfl⟩)))⟩
  simp only [a1, a2, a3, a4, or_self, if_false, Int.add_zero]

end Go.Proofs.YtmfcpbhdggonfaaGreatDoor

namespace Go.Proofs.YtmfcpbhdggonfaaGreatDoor
open Go.RowKit RR

theorem keep1 {wr W w1 : World} {a : Addr} {x : Value} (ha : a.block < wr.heap.size) (h : W.cell? a = some x ∧ Below wr.heap.size wr W) (hb : Below W.heap.size W w1) : w1.cell? a = some x ∧ Below wr.heap.size wr w1 :=
  ⟨(hb.cell (Nat.lt_of_lt_of_le ha h.2.size)).trans h.1, h.2.trans (hb.mono h.2.size)⟩
theorem keep2 {wr W w1 : World} {a c : Addr} {x y : Value} (ha : a.block < wr.heap.size) (hc : c.block < wr.heap.size) (h : W.cell? a = some x ∧ W.cell? c = some y ∧ Below wr.heap.size wr W) (hb : Below W.heap.size W w1) : w1.cell? a = some x ∧ w1.cell? c = some y ∧ Below wr.heap.size wr w1 :=
  ⟨(hb.cell (Nat.lt_of_lt_of_le ha h.2.2.size)).trans h.1, (hb.cell (Nat.lt_of_lt_of_le hc h.2.2.size)).trans h.2.1, h.2.2.trans (hb.mono h.2.2.size)⟩

end Go.Proofs.YtmfcpbhdggonfaaGreatDoor

namespace RR

structure Nm where
  word : ByteArray
  at_ : Nat
  role : Nat
  proc : Int

structure Cl where
  word : ByteArray
  at_ : Nat
  values : Nat

def isWholeB (r : Nat) : Bool := decide (r = 0) || decide (r = 1) || decide (r = 2)
def isGivenB (ns : List Nm) (word : ByteArray) (role : Nat) : Bool := ns.any fun n => decide (n.role = role) && decide (n.word = word)
def isParamB (ns : List Nm) (word : ByteArray) (proc : Int) : Bool := ns.any fun n => decide (n.role = 3) && decide (n.proc = proc) && decide (n.word = word)

theorem any_snoc {α : Type} (p : α → Bool) (l : List α) (k : Nat) (h : k < l.length) : (l.take (k + 1)).any p = ((l.take k).any p || p l[k]) := by
  rw [List.take_succ_eq_append_getElem h, List.any_append]; simp
theorem any_get {α : Type} (p : α → Bool) (l : List α) (k : Nat) (h : k < l.length) (e : p l[k] = true) : l.any p = true :=
  List.any_eq_true.2 ⟨l[k], List.getElem_mem _, e⟩

def misusedB (ns : List Nm) (n : Nm) : Bool :=
  if n.role = 4 then !isGivenB ns n.word 0 && !isParamB ns n.word n.proc
  else if n.role = 5 then !isGivenB ns n.word 1
  else if n.role = 6 ∨ n.role = 7 then !isGivenB ns n.word 2
  else false

def clashB (i : Nat) (n : Nm) (j : Nat) (m : Nm) : Bool :=
  decide (m.word = n.word) && ((isWholeB n.role && isWholeB m.role && decide (j < i)) || (decide (n.role = 3) && isWholeB m.role) || (decide (n.role = 3) && decide (m.role = 3) && decide (m.proc = n.proc) && decide (j < i)))

def nmAt (ns : List Nm) (k : Nat) : Nm := ns[k]?.getD ⟨⟨#[]⟩, 0, 0, 0⟩
theorem nmAt_eq {ns : List Nm} {k : Nat} (h : k < ns.length) : nmAt ns k = ns[k] := by unfold nmAt; rw [List.getElem?_eq_getElem h]; rfl
def clashG (ns : List Nm) (i : Nat) (n : Nm) : Nat → Bool
  | 0 => false
  | d + 1 => clashB i n (ns.length - (d + 1)) (nmAt ns (ns.length - (d + 1))) || clashG ns i n d
def clashF (ns : List Nm) (i : Nat) (n : Nm) (j : Nat) : Bool := clashG ns i n (ns.length - j)
theorem clashF_eq (ns : List Nm) (i : Nat) (n : Nm) (j : Nat) : clashF ns i n j = if h : j < ns.length then clashB i n j ns[j] || clashF ns i n (j + 1) else false := by
  unfold clashF
  by_cases hk : j < ns.length
  · have e : ns.length - j = (ns.length - (j + 1)) + 1 := by omega
    have e2 : ns.length - ((ns.length - (j + 1)) + 1) = j := by omega
    rw [dif_pos hk, e, clashG, e2, nmAt_eq hk]
  · rw [dif_neg hk, show ns.length - j = 0 by omega]; rfl

theorem clashF_out {ns : List Nm} {i : Nat} {n : Nm} {j : Nat} (h : ¬ j < ns.length) : clashF ns i n j = false := by rw [clashF_eq, dif_neg h]
theorem clashF_yes {ns : List Nm} {i : Nat} {n : Nm} {j : Nat} (h : j < ns.length) (e : clashB i n j ns[j] = true) : clashF ns i n j = true := by rw [clashF_eq, dif_pos h, e]; rfl
theorem clashF_no {ns : List Nm} {i : Nat} {n : Nm} {j : Nat} (h : j < ns.length) (e : clashB i n j ns[j] = false) : clashF ns i n j = clashF ns i n (j + 1) := by rw [clashF_eq, dif_pos h, e]; rfl

def firstG (p : Nat → Nm → Bool) (ns : List Nm) : Nat → Option Nat
  | 0 => none
  | d + 1 => if p (ns.length - (d + 1)) (nmAt ns (ns.length - (d + 1))) then some (nmAt ns (ns.length - (d + 1))).at_ else firstG p ns d
def firstF (p : Nat → Nm → Bool) (ns : List Nm) (k : Nat) : Option Nat := firstG p ns (ns.length - k)
theorem firstF_eq (p : Nat → Nm → Bool) (ns : List Nm) (k : Nat) : firstF p ns k = if h : k < ns.length then if p k ns[k] then some ns[k].at_ else firstF p ns (k + 1) else none := by
  unfold firstF
  by_cases hk : k < ns.length
  · have e : ns.length - k = (ns.length - (k + 1)) + 1 := by omega
    have e2 : ns.length - ((ns.length - (k + 1)) + 1) = k := by omega
    rw [dif_pos hk, e, firstG, e2, nmAt_eq hk]
  · rw [dif_neg hk, show ns.length - k = 0 by omega]; rfl

theorem firstF_out {p : Nat → Nm → Bool} {ns : List Nm} {k : Nat} (h : ¬ k < ns.length) : firstF p ns k = none := by rw [firstF_eq, dif_neg h]
theorem firstF_yes {p : Nat → Nm → Bool} {ns : List Nm} {k : Nat} (h : k < ns.length) (e : p k ns[k] = true) : firstF p ns k = some ns[k].at_ := by rw [firstF_eq, dif_pos h, if_pos e]
theorem firstF_no {p : Nat → Nm → Bool} {ns : List Nm} {k : Nat} (h : k < ns.length) (e : p k ns[k] = false) : firstF p ns k = firstF p ns (k + 1) := by rw [firstF_eq, dif_pos h, e]; rfl

def twiceP (ns : List Nm) : Option Nat := firstF (fun i n => clashF ns i n 0) ns 0
def misP (ns : List Nm) : Option Nat := firstF (fun _ n => misusedB ns n) ns 0

end RR

/- The checks on names as the program makes them, more: too many, calls. No Go here. -/
namespace RR

def pstep (word : ByteArray) (pc : Int × Nat) (n : Nm) : Int × Nat :=
  let p := if n.role = 2 ∧ n.word = word then n.proc else pc.1
  (p, if n.role = 3 ∧ n.proc = p then pc.2 + 1 else pc.2)
def paramsP (ns : List Nm) (word : ByteArray) : Nat := (ns.foldl (pstep word) (-1, 0)).2

theorem foldl_snoc {α β : Type} (f : β → α → β) (b : β) (l : List α) (k : Nat) (h : k < l.length) : (l.take (k + 1)).foldl f b = f ((l.take k).foldl f b) l[k] := by
  rw [List.take_succ_eq_append_getElem h, List.foldl_append]; rfl

structure Cts where
  sh : Nat
  lo : Nat
  pr : Nat
  pa : Nat
  th : Nat
def Cts.add (c : Cts) (r : Nat) : Cts :=
  if r = 0 then { c with sh := c.sh + 1 } else if r = 1 then { c with lo := c.lo + 1 } else if r = 2 then { c with pr := c.pr + 1, pa := 0 } else if r = 3 then { c with pa := c.pa + 1 } else if r = 7 then { c with th := c.th + 1 } else c
def Cts.too (c : Cts) : Bool := decide (4 < c.sh) || decide (3 < c.lo) || decide (4 < c.pr) || decide (3 < c.pa) || decide (3 < c.th)

def manyF2 (ns : List Nm) (c : Cts) : Option Nat :=
  match ns with
  | [] => none
  | n :: r => if (c.add n.role).too then some n.at_ else manyF2 r (c.add n.role)
def manyP (ns : List Nm) : Option Nat := manyF2 ns ⟨0, 0, 0, 0, 0⟩

def wrongP (ns : List Nm) : List Cl → Option Nat
  | [] => none
  | c :: r => if c.values ≠ paramsP ns c.word then some c.at_ else wrongP ns r

def outCheck (ns : List Nm) (cs : List Cl) : Int × Int :=
  match manyP ns with
  | some p => (4, p)
  | none => match twiceP ns with
    | some p => (5, p)
    | none => match misP ns with
      | some p => (5, p)
      | none => match wrongP ns cs with
        | some p => (6, p)
        | none => (0, 0)

end RR

namespace Go.Proofs.YtmfcpbhdggonfaaGreatDoor
open Go.RowKit RR

def NmSl (w : World) (ao : Option Addr) (l : List Nm) : Prop := ∀ i, (h : i < l.length) → ∃ b o, b < w.heap.size ∧ ao = some ⟨b, o, none⟩ ∧ w.cell? ⟨b, o + i * 4, none⟩ = some (.string l[i].word) ∧ w.cell? ⟨b, o + i * 4 + 1, none⟩ = some (.int .i64 l[i].at_) ∧ w.cell? ⟨b, o + i * 4 + 2, none⟩ = some (.int .i64 l[i].role) ∧ w.cell? ⟨b, o + i * 4 + 3, none⟩ = some (.int .i64 l[i].proc)

theorem NmSl.below {w w' : World} {ao : Option Addr} {l : List Nm} (h : NmSl w ao l) (hb : Below w.heap.size w w') : NmSl w' ao l := fun i hi => by
  obtain ⟨b, o, h1, h2, h3, h4, h5, h6⟩ := h i hi
  exact ⟨b, o, Nat.lt_of_lt_of_le h1 hb.size, h2, (hb.cell (p := ⟨b, o + i * 4, none⟩) h1).trans h3, (hb.cell (p := ⟨b, o + i * 4 + 1, none⟩) h1).trans h4, (hb.cell (p := ⟨b, o + i * 4 + 2, none⟩) h1).trans h5, (hb.cell (p := ⟨b, o + i * 4 + 3, none⟩) h1).trans h6⟩

set_option maxHeartbeats 400000 in
theorem c_isWhole (r : Nat) (w : World) :
    Calls Tryz.prog 208 #[.int .i64 r] w fun e w' => e = .returned (.bool (isWholeB r)) ∧ w' = w := by
  have H : ∀ a b c : Bool, ((r : Int) == 0) = a → ((r : Int) == 1) = b → ((r : Int) == 2) = c → isWholeB r = (a || b || c) := by
    intro a b c ha hb hc
    subst ha; subst hb; subst hc
    unfold isWholeB
    rw [Bool.eq_iff_iff]; simp; omega
  cases h0 : ((r : Int) == 0)
  · cases h1 : ((r : Int) == 1)
    · cases h2 : ((r : Int) == 2)
      all_goals
        have HE := hide (H _ _ _ h0 h1 h2)
        clear H
        go_enter Tryz.func208, Tryz.ntmps208
        go_wp2
        go_ret
        exact ⟨ret_bool (by rw [HE.out]; rfl), rfl⟩
    · have HE := hide (H _ _ _ h0 h1 rfl)
      clear H
      go_enter Tryz.func208, Tryz.ntmps208
      go_wp2
      go_ret
      exact ⟨ret_bool (by rw [HE.out]; rfl), rfl⟩
  · have HE := hide (H _ _ _ h0 rfl rfl)
    clear H
    go_enter Tryz.func208, Tryz.ntmps208
    go_wp2
    go_ret
    exact ⟨ret_bool (by rw [HE.out]; rfl), rfl⟩

set_option maxRecDepth 100000 in
set_option maxHeartbeats 1000000 in
theorem c_isGiven (ao : Option Addr) (cap : Nat) (l : List Nm) (t : ByteArray) (r : Nat) (w : World) (hl : l.length ≤ 1000) (hi : NmSl w ao l) :
    Calls Tryz.prog 209 #[.slice ao l.length cap, .string t, .int .i64 r] w fun e w' => e = .returned (.bool (isGivenB l t r)) ∧ Below w.heap.size w w' := by
  go_enter Tryz.func209, Tryz.ntmps209
  go_wp2
  go_loopw [11] (fun u wr => ∃ k : Nat, u = .int .i64 k ∧ k ≤ l.length ∧ isGivenB (l.take k) t r = false ∧ Below w.heap.size w wr) (fun u _ => l.length - (intOf u).toNat)
  case atStart => exact ⟨0, rfl, Nat.zero_le _, rfl, Below.refl _ _⟩
  case round =>
    obtain ⟨k, rfl, hk, hn, hbel⟩ := hrel
    by_cases hlt : k < l.length
    · obtain ⟨b, o, hb, hao, c1, c2, c3, c4⟩ := (hi.below hbel) k hlt
      subst hao
      have HS : Hid (isGivenB (l.take (k + 1)) t r = (isGivenB (l.take k) t r || (decide (l[k].role = r) && decide (l[k].word = t)))) := any_snoc _ l k hlt
      have HN := hide hn
      clear hn
      by_cases hr : (l[k].role : Int) = r
      · have hr' : ((l[k].role : Int) == r) = true := beq_iff_eq.2 hr
        have HR : Hid (l[k].role = r) := by show _ = _; omega
        cases hw : (l[k].word.toList == t.toList)
        · have HW : Hid (¬ l[k].word = t) := fun e => by rw [e] at hw; simp at hw
          clear hr
          go_wp2
          go_roundw
          case rel => exact ⟨k + 1, by go_num, by omega, by rw [HS.out, HN.out, decide_eq_false HW.out, Bool.and_false]; rfl, hbel.alloc hbel.size _⟩
          case measure => simp [intOf]; omega
        · have HW : Hid (l[k].word = t) := toList_inj.1 (by simpa using hw)
          clear hr
          go_wp2
          go_ret
          exact ⟨ret_bool (any_get _ l k hlt (by show (decide _ && decide _) = true; rw [decide_eq_true HR.out, decide_eq_true HW.out]; rfl)).symm, hbel.alloc hbel.size _⟩
      · have hr' : ((l[k].role : Int) == r) = false := beq_eq_false_iff_ne.2 hr
        have HR : Hid (¬ l[k].role = r) := fun e => hr (by omega)
        clear hr
        go_wp2
        go_roundw
        case rel => exact ⟨k + 1, by go_num, by omega, by rw [HS.out, HN.out, decide_eq_false HR.out]; rfl, hbel.alloc hbel.size _⟩
        case measure => simp [intOf]; omega
    · go_wp2
      go_ret
      exact ⟨ret_bool (by rw [← hn, List.take_of_length_le (by omega)]), hbel⟩

set_option maxRecDepth 100000 in
set_option maxHeartbeats 1000000 in
theorem c_isParam (ao : Option Addr) (cap : Nat) (l : List Nm) (t : ByteArray) (r : Int) (w : World) (hl : l.length ≤ 1000) (hi : NmSl w ao l) :
    Calls Tryz.prog 210 #[.slice ao l.length cap, .string t, .int .i64 r] w fun e w' => e = .returned (.bool (isParamB l t r)) ∧ Below w.heap.size w w' := by
  go_enter Tryz.func210, Tryz.ntmps210
  go_wp2
  go_loopw [11] (fun u wr => ∃ k : Nat, u = .int .i64 k ∧ k ≤ l.length ∧ isParamB (l.take k) t r = false ∧ Below w.heap.size w wr) (fun u _ => l.length - (intOf u).toNat)
  case atStart => exact ⟨0, rfl, Nat.zero_le _, rfl, Below.refl _ _⟩
  case round =>
    obtain ⟨k, rfl, hk, hn, hbel⟩ := hrel
    by_cases hlt : k < l.length
    · obtain ⟨b, o, hb, hao, c1, c2, c3, c4⟩ := (hi.below hbel) k hlt
      subst hao
      have HS : Hid (isParamB (l.take (k + 1)) t r = (isParamB (l.take k) t r || (decide (l[k].role = 3) && decide (l[k].proc = r) && decide (l[k].word = t)))) := any_snoc _ l k hlt
      have HN := hide hn
      clear hn
      by_cases hr : (l[k].role : Int) = 3
      · have hr' : ((l[k].role : Int) == 3) = true := beq_iff_eq.2 hr
        have HR : Hid (l[k].role = 3) := by show _ = _; omega
        by_cases hq : l[k].proc = r
        · have hq' : (l[k].proc == r) = true := beq_iff_eq.2 hq
          have HQ := hide hq
          cases hw : (l[k].word.toList == t.toList)
          · have HW : Hid (¬ l[k].word = t) := fun e => by rw [e] at hw; simp at hw
            clear hr hq
            go_wp2
            go_roundw
            case rel => exact ⟨k + 1, by go_num, by omega, by rw [HS.out, HN.out, decide_eq_false HW.out, Bool.and_false]; rfl, hbel.alloc hbel.size _⟩
            case measure => simp [intOf]; omega
          · have HW : Hid (l[k].word = t) := toList_inj.1 (by simpa using hw)
            clear hr hq
            go_wp2
            go_ret
            exact ⟨ret_bool (any_get _ l k hlt (by show (decide _ && decide _ && decide _) = true; rw [decide_eq_true HR.out, decide_eq_true HQ.out, decide_eq_true HW.out]; rfl)).symm, hbel.alloc hbel.size _⟩
        · have hq' : (l[k].proc == r) = false := beq_eq_false_iff_ne.2 hq
          have HQ := hide hq
          clear hr hq
          go_wp2
          go_roundw
          case rel => exact ⟨k + 1, by go_num, by omega, by rw [HS.out, HN.out, decide_eq_false HQ.out, Bool.and_false]; rfl, hbel.alloc hbel.size _⟩
          case measure => simp [intOf]; omega
      · have hr' : ((l[k].role : Int) == 3) = false := beq_eq_false_iff_ne.2 hr
        have HR : Hid (¬ l[k].role = 3) := fun e => hr (by omega)
        clear hr
        go_wp2
        go_roundw
        case rel => exact ⟨k + 1, by go_num, by omega, by rw [HS.out, HN.out, decide_eq_false HR.out]; rfl, hbel.alloc hbel.size _⟩
        case measure => simp [intOf]; omega
    · go_wp2
      go_ret
      exact ⟨ret_bool (by rw [← hn, List.take_of_length_le (by omega)]), hbel⟩

end Go.Proofs.YtmfcpbhdggonfaaGreatDoor
