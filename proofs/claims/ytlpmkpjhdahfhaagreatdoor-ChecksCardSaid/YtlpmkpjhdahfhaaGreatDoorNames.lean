/- The checks on names as the program makes them: plain functions. No Go here. -/
import Derived.Test.YtlpmkpjhdahfhaaGreatDoorPure
namespace RR

/-- A name where it stands: roles: 0 shared, 1 lock, 2 procedure, 3 parameter, 4 truth, 5 lock used, 6 called, 7 thread. -/
structure Nm where
  word : ByteArray
  at_ : Nat
  role : Nat
  proc : Int
  deriving Inhabited

structure Cl where
  word : ByteArray
  at_ : Nat
  values : Nat
  deriving Inhabited

def isWholeB (r : Nat) : Bool := decide (r = 0) || decide (r = 1) || decide (r = 2)
def isGivenB (ns : List Nm) (word : ByteArray) (role : Nat) : Bool := ns.any fun n => decide (n.role = role) && decide (n.word = word)
def isParamB (ns : List Nm) (word : ByteArray) (proc : Int) : Bool := ns.any fun n => decide (n.role = 3) && decide (n.proc = proc) && decide (n.word = word)

theorem any_snoc {α : Type} (p : α → Bool) (l : List α) (k : Nat) (h : k < l.length) : (l.take (k + 1)).any p = ((l.take k).any p || p l[k]) := by
  rw [List.take_succ_eq_append_getElem h, List.any_append]; simp
theorem any_get {α : Type} (p : α → Bool) (l : List α) (k : Nat) (h : k < l.length) (e : p l[k] = true) : l.any p = true :=
  List.any_eq_true.2 ⟨l[k], List.getElem_mem _, e⟩

/-- Is the name n, where it is used, what it is not? -/
def misusedB (ns : List Nm) (n : Nm) : Bool :=
  if n.role = 4 then !isGivenB ns n.word 0 && !isParamB ns n.word n.proc
  else if n.role = 5 then !isGivenB ns n.word 1
  else if n.role = 6 ∨ n.role = 7 then !isGivenB ns n.word 2
  else false

/-- Does the name m, number j, clash with the name n, number i? -/
def clashB (i : Nat) (n : Nm) (j : Nat) (m : Nm) : Bool :=
  decide (m.word = n.word) && ((isWholeB n.role && isWholeB m.role && decide (j < i)) || (decide (n.role = 3) && isWholeB m.role) || (decide (n.role = 3) && decide (m.role = 3) && decide (m.proc = n.proc) && decide (j < i)))

def clashF (ns : List Nm) (i : Nat) (n : Nm) (j : Nat) : Bool :=
  if h : j < ns.length then clashB i n j ns[j] || clashF ns i n (j + 1) else false
termination_by ns.length - j
decreasing_by omega

theorem clashF_out {ns : List Nm} {i : Nat} {n : Nm} {j : Nat} (h : ¬ j < ns.length) : clashF ns i n j = false := by rw [clashF, dif_neg h]
theorem clashF_yes {ns : List Nm} {i : Nat} {n : Nm} {j : Nat} (h : j < ns.length) (e : clashB i n j ns[j] = true) : clashF ns i n j = true := by rw [clashF, dif_pos h, e]; rfl
theorem clashF_no {ns : List Nm} {i : Nat} {n : Nm} {j : Nat} (h : j < ns.length) (e : clashB i n j ns[j] = false) : clashF ns i n j = clashF ns i n (j + 1) := by rw [clashF, dif_pos h, e]; rfl

/-- The place of the first name, from k on, of which p holds. -/
def firstF (p : Nat → Nm → Bool) (ns : List Nm) (k : Nat) : Option Nat :=
  if h : k < ns.length then if p k ns[k] then some ns[k].at_ else firstF p ns (k + 1) else none
termination_by ns.length - k
decreasing_by omega
theorem firstF_out {p : Nat → Nm → Bool} {ns : List Nm} {k : Nat} (h : ¬ k < ns.length) : firstF p ns k = none := by rw [firstF, dif_neg h]
theorem firstF_yes {p : Nat → Nm → Bool} {ns : List Nm} {k : Nat} (h : k < ns.length) (e : p k ns[k] = true) : firstF p ns k = some ns[k].at_ := by rw [firstF, dif_pos h, if_pos e]
theorem firstF_no {p : Nat → Nm → Bool} {ns : List Nm} {k : Nat} (h : k < ns.length) (e : p k ns[k] = false) : firstF p ns k = firstF p ns (k + 1) := by rw [firstF, dif_pos h, e]; rfl

def twiceP (ns : List Nm) : Option Nat := firstF (fun i n => clashF ns i n 0) ns 0
def misP (ns : List Nm) : Option Nat := firstF (fun _ n => misusedB ns n) ns 0

end RR
