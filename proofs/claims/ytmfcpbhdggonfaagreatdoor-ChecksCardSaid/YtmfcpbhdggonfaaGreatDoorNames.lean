/- The checks on names as the program makes them: plain functions. No Go here. -/
import Derived.Test.YtmfcpbhdggonfaaGreatDoorPure
namespace RR

/-- A name where it stands: roles: 0 shared, 1 lock, 2 procedure, 3 parameter, 4 truth, 5 lock used, 6 called, 7 thread. -/
structure Nm where
  word : ByteArray
  at_ : Nat
  role : Nat
  proc : Int

structure Cl where
  word : ByteArray
  at_ : Nat
  values : Nat

def isWholeB (r : Nat) : Bool := decide (r = 0) || decide (r = 1) || decide (r = 2)
def isGivenB (ns : List Nm) (word : ByteArray) (role : Nat) : Bool := ns.any fun n => decide (n.role = role) && decide (n.word = word)
def isParamB (ns : List Nm) (word : ByteArray) (proc : Int) : Bool := ns.any fun n => decide (n.role = 3) && decide (n.proc = proc) && decide (n.word = word)

theorem any_snoc {α : Type} (p : α → Bool) (l : List α) (k : Nat) (h : k < l.length) : (l.take (k + 1)).any p = ((l.take k).any p || p l[k]) := by
  rw [List.take_succ_eq_append_getElem h, List.any_append]; simp
theorem any_get {α : Type} (p : α → Bool) (l : List α) (k : Nat) (h : k < l.length) (e : p l[k] = true) : l.any p = true :=
  List.any_eq_true.2 ⟨l[k], List.getElem_mem _, e⟩

/-- Is the name n, where it is used, what it is not? -/
def misusedB (ns : List Nm) (n : Nm) : Bool :=
  if n.role = 4 then !isGivenB ns n.word 0 && !isParamB ns n.word n.proc
  else if n.role = 5 then !isGivenB ns n.word 1
  else if n.role = 6 ∨ n.role = 7 then !isGivenB ns n.word 2
  else false

/-- Does the name m, number j, clash with the name n, number i? -/
def clashB (i : Nat) (n : Nm) (j : Nat) (m : Nm) : Bool :=
  decide (m.word = n.word) && ((isWholeB n.role && isWholeB m.role && decide (j < i)) || (decide (n.role = 3) && isWholeB m.role) || (decide (n.role = 3) && decide (m.role = 3) && decide (m.proc = n.proc) && decide (j < i)))

def nmAt (ns : List Nm) (k : Nat) : Nm := ns[k]?.getD ⟨⟨#[]⟩, 0, 0, 0⟩
theorem nmAt_eq {ns : List Nm} {k : Nat} (h : k < ns.length) : nmAt ns k = ns[k] := by unfold nmAt; rw [List.getElem?_eq_getElem h]; rfl
def clashG (ns : List Nm) (i : Nat) (n : Nm) : Nat → Bool
  | 0 => false
  | d + 1 => clashB i n (ns.length - (d + 1)) (nmAt ns (ns.length - (d + 1))) || clashG ns i n d
def clashF (ns : List Nm) (i : Nat) (n : Nm) (j : Nat) : Bool := clashG ns i n (ns.length - j)
theorem clashF_eq (ns : List Nm) (i : Nat) (n : Nm) (j : Nat) : clashF ns i n j = if h : j < ns.length then clashB i n j ns[j] || clashF ns i n (j + 1) else false := by
  unfold clashF
  by_cases hk : j < ns.length
  · have e : ns.length - j = (ns.length - (j + 1)) + 1 := by omega
    have e2 : ns.length - ((ns.length - (j + 1)) + 1) = j := by omega
    rw [dif_pos hk, e, clashG, e2, nmAt_eq hk]
  · rw [dif_neg hk, show ns.length - j = 0 by omega]; rfl

theorem clashF_out {ns : List Nm} {i : Nat} {n : Nm} {j : Nat} (h : ¬ j < ns.length) : clashF ns i n j = false := by rw [clashF_eq, dif_neg h]
theorem clashF_yes {ns : List Nm} {i : Nat} {n : Nm} {j : Nat} (h : j < ns.length) (e : clashB i n j ns[j] = true) : clashF ns i n j = true := by rw [clashF_eq, dif_pos h, e]; rfl
theorem clashF_no {ns : List Nm} {i : Nat} {n : Nm} {j : Nat} (h : j < ns.length) (e : clashB i n j ns[j] = false) : clashF ns i n j = clashF ns i n (j + 1) := by rw [clashF_eq, dif_pos h, e]; rfl

/-- The place of the first name, from k on, of which p holds. -/
def firstG (p : Nat → Nm → Bool) (ns : List Nm) : Nat → Option Nat
  | 0 => none
  | d + 1 => if p (ns.length - (d + 1)) (nmAt ns (ns.length - (d + 1))) then some (nmAt ns (ns.length - (d + 1))).at_ else firstG p ns d
def firstF (p : Nat → Nm → Bool) (ns : List Nm) (k : Nat) : Option Nat := firstG p ns (ns.length - k)
theorem firstF_eq (p : Nat → Nm → Bool) (ns : List Nm) (k : Nat) : firstF p ns k = if h : k < ns.length then if p k ns[k] then some ns[k].at_ else firstF p ns (k + 1) else none := by
  unfold firstF
  by_cases hk : k < ns.length
  · have e : ns.length - k = (ns.length - (k + 1)) + 1 := by omega
    have e2 : ns.length - ((ns.length - (k + 1)) + 1) = k := by omega
    rw [dif_pos hk, e, firstG, e2, nmAt_eq hk]
  · rw [dif_neg hk, show ns.length - k = 0 by omega]; rfl

theorem firstF_out {p : Nat → Nm → Bool} {ns : List Nm} {k : Nat} (h : ¬ k < ns.length) : firstF p ns k = none := by rw [firstF_eq, dif_neg h]
theorem firstF_yes {p : Nat → Nm → Bool} {ns : List Nm} {k : Nat} (h : k < ns.length) (e : p k ns[k] = true) : firstF p ns k = some ns[k].at_ := by rw [firstF_eq, dif_pos h, if_pos e]
theorem firstF_no {p : Nat → Nm → Bool} {ns : List Nm} {k : Nat} (h : k < ns.length) (e : p k ns[k] = false) : firstF p ns k = firstF p ns (k + 1) := by rw [firstF_eq, dif_pos h, e]; rfl

def twiceP (ns : List Nm) : Option Nat := firstF (fun i n => clashF ns i n 0) ns 0
def misP (ns : List Nm) : Option Nat := firstF (fun _ n => misusedB ns n) ns 0

end RR

/- The checks on names as the program makes them, more: too many, calls. No Go here. -/
namespace RR

def pstep (word : ByteArray) (pc : Int × Nat) (n : Nm) : Int × Nat :=
  let p := if n.role = 2 ∧ n.word = word then n.proc else pc.1
  (p, if n.role = 3 ∧ n.proc = p then pc.2 + 1 else pc.2)
def paramsP (ns : List Nm) (word : ByteArray) : Nat := (ns.foldl (pstep word) (-1, 0)).2

theorem foldl_snoc {α β : Type} (f : β → α → β) (b : β) (l : List α) (k : Nat) (h : k < l.length) : (l.take (k + 1)).foldl f b = f ((l.take k).foldl f b) l[k] := by
  rw [List.take_succ_eq_append_getElem h, List.foldl_append]; rfl

/-- How many names of each kind there are so far. -/
structure Cts where
  sh : Nat
  lo : Nat
  pr : Nat
  pa : Nat
  th : Nat
def Cts.add (c : Cts) (r : Nat) : Cts :=
  if r = 0 then { c with sh := c.sh + 1 } else if r = 1 then { c with lo := c.lo + 1 } else if r = 2 then { c with pr := c.pr + 1, pa := 0 } else if r = 3 then { c with pa := c.pa + 1 } else if r = 7 then { c with th := c.th + 1 } else c
def Cts.too (c : Cts) : Bool := decide (4 < c.sh) || decide (3 < c.lo) || decide (4 < c.pr) || decide (3 < c.pa) || decide (3 < c.th)

def manyF2 (ns : List Nm) (c : Cts) : Option Nat :=
  match ns with
  | [] => none
  | n :: r => if (c.add n.role).too then some n.at_ else manyF2 r (c.add n.role)
def manyP (ns : List Nm) : Option Nat := manyF2 ns ⟨0, 0, 0, 0, 0⟩

def wrongP (ns : List Nm) : List Cl → Option Nat
  | [] => none
  | c :: r => if c.values ≠ paramsP ns c.word then some c.at_ else wrongP ns r

/-- The error and its place. -/
def outCheck (ns : List Nm) (cs : List Cl) : Int × Int :=
  match manyP ns with
  | some p => (4, p)
  | none => match twiceP ns with
    | some p => (5, p)
    | none => match misP ns with
      | some p => (5, p)
      | none => match wrongP ns cs with
        | some p => (6, p)
        | none => (0, 0)

end RR
