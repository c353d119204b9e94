/- The checks on names as the program makes them, more: too many, calls. No Go here. -/
import Derived.Test.YtlpmkpjhdahfhaaGreatDoorNames
namespace RR

def pstep (word : ByteArray) (pc : Int × Nat) (n : Nm) : Int × Nat :=
  let p := if n.role = 2 ∧ n.word = word then n.proc else pc.1
  (p, if n.role = 3 ∧ n.proc = p then pc.2 + 1 else pc.2)
def paramsP (ns : List Nm) (word : ByteArray) : Nat := (ns.foldl (pstep word) (-1, 0)).2

theorem foldl_snoc {α β : Type} (f : β → α → β) (b : β) (l : List α) (k : Nat) (h : k < l.length) : (l.take (k + 1)).foldl f b = f ((l.take k).foldl f b) l[k] := by
  rw [List.take_succ_eq_append_getElem h, List.foldl_append]; rfl

/-- How many names of each kind there are so far. -/
structure Cts where
  sh : Nat
  lo : Nat
  pr : Nat
  pa : Nat
  th : Nat
def Cts.add (c : Cts) (r : Nat) : Cts :=
  if r = 0 then { c with sh := c.sh + 1 } else if r = 1 then { c with lo := c.lo + 1 } else if r = 2 then { c with pr := c.pr + 1, pa := 0 } else if r = 3 then { c with pa := c.pa + 1 } else if r = 7 then { c with th := c.th + 1 } else c
def Cts.too (c : Cts) : Bool := decide (4 < c.sh) || decide (3 < c.lo) || decide (4 < c.pr) || decide (3 < c.pa) || decide (3 < c.th)

def manyF2 (ns : List Nm) (c : Cts) : Option Nat :=
  match ns with
  | [] => none
  | n :: r => if (c.add n.role).too then some n.at_ else manyF2 r (c.add n.role)
def manyP (ns : List Nm) : Option Nat := manyF2 ns ⟨0, 0, 0, 0, 0⟩

def wrongP (ns : List Nm) : List Cl → Option Nat
  | [] => none
  | c :: r => if c.values ≠ paramsP ns c.word then some c.at_ else wrongP ns r

/-- The error and its place. -/
def outCheck (ns : List Nm) (cs : List Cl) : Int × Int :=
  match manyP ns with
  | some p => (4, p)
  | none => match twiceP ns with
    | some p => (5, p)
    | none => match misP ns with
      | some p => (5, p)
      | none => match wrongP ns cs with
        | some p => (6, p)
        | none => (0, 0)

end RR
