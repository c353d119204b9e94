/- The program's parser with what it lists beside names and calls: statements and the nodes of EXPRs. Plain functions. No Go here. -/
import Derived.Test.YtmfcpbhdggonfaaGreatDoorMgAB
import Derived.Test.YtmfcpbhdggonfaaGreatDoorMgAA
import Derived.Deep.MidRow
import Derived.Lib.ItoaNum
namespace RR
open Go Go.RowKit

structure Nd where
  sign : Nat
  name : Int
  left : Int
  right : Int
structure Blk where
  proc : Int
  owner : Int
  els : Bool
structure Stm where
  kind : Nat
  at_ : Nat
  blk : Blk
  target : Int
  name : Int
  vals : List (Int × Int)
structure QSt where
  p : PSt
  sts : List Stm
  nds : List Nd

def QSt.setp (σ : QSt) (q : PSt) : QSt := { σ with p := q }
def QSt.node (σ : QSt) (n : Nd) : QSt := { σ with nds := σ.nds ++ [n] }
def QSt.add (σ : QSt) (s : Stm) : QSt := { σ with sts := σ.sts ++ [s] }
def nameIx (L : List Tk) (σ : PSt) : Int := if isNameB (σ.ahead L 0).t then σ.names.length else -1

def notsQ (L : List Tk) : Nat → QSt → Nat → Option (QSt × Nat)
  | 0, _, _ => none
  | f + 1, σ, n => if σ.p.sees L ⟨#[33]⟩ then notsQ L f (σ.setp σ.p.step) (n + 1) else some (σ, n)
def addNots : Nat → QSt → Int → QSt × Int
  | 0, σ, w => (σ, w)
  | n + 1, σ, w => addNots n (σ.node ⟨4, -1, 0, w⟩) σ.nds.length

def constQ (L : List Tk) (σ : QSt) (t : ByteArray) (sign : Nat) : QSt × Int := ((σ.setp (σ.p.take L t)).node ⟨sign, -1, 0, 0⟩, σ.nds.length)
def plainQ (L : List Tk) (br : QSt → Option (QSt × Int)) (σ : QSt) : Option (QSt × Int) :=
  if (σ.p.ahead L 0).t = ⟨#[40]⟩ then br σ
  else if (σ.p.ahead L 0).t = ⟨#[116, 114, 117, 101]⟩ then some (constQ L σ ⟨#[116, 114, 117, 101]⟩ 1)
  else if (σ.p.ahead L 0).t = ⟨#[102, 97, 108, 115, 101]⟩ then some (constQ L σ ⟨#[102, 97, 108, 115, 101]⟩ 0)
  else if (σ.p.ahead L 0).t = ⟨#[63]⟩ then some (constQ L σ ⟨#[63]⟩ 2)
  else some ((σ.setp (σ.p.takeName L 4)).node ⟨3, nameIx L σ.p, 0, 0⟩, σ.nds.length)

def exprsQ (L : List Tk) : Nat → Nat → QSt → Int → Option (QSt × Int)
  | 0, _, _, _ => none
  | f + 1, 0, σ, _ => (exprsQ L f 2 σ 0).bind fun r => exprsQ L f 1 r.1 r.2
  | f + 1, 1, σ, w => if σ.p.sees L ⟨#[124]⟩ then (exprsQ L f 2 (σ.setp σ.p.step) 0).bind fun r => exprsQ L f 1 (r.1.node ⟨6, -1, w, r.2⟩) r.1.nds.length else some (σ, w)
  | f + 1, 2, σ, _ => (exprsQ L f 4 σ 0).bind fun r => exprsQ L f 3 r.1 r.2
  | f + 1, 3, σ, w => if σ.p.sees L ⟨#[38]⟩ then (exprsQ L f 4 (σ.setp σ.p.step) 0).bind fun r => exprsQ L f 3 (r.1.node ⟨5, -1, w, r.2⟩) r.1.nds.length else some (σ, w)
  | f + 1, 4, σ, _ => (notsQ L f σ 0).bind fun r => (plainQ L (fun τ => exprsQ L f 5 τ 0) r.1).map fun q => addNots r.2 q.1 q.2
  | f + 1, _, σ, _ => (exprsQ L f 0 (σ.setp (enterP L σ.p ⟨#[40]⟩)) 0).map fun r => (r.1.setp (leaveP L r.1.p ⟨#[41]⟩), r.2)
def exprQ (L : List Tk) (f : Nat) (σ : QSt) : Option (QSt × Int) := exprsQ L f 0 σ 0
def orQ (L : List Tk) (f : Nat) (σ : QSt) (w : Int) : Option (QSt × Int) := exprsQ L f 1 σ w
def termQ (L : List Tk) (f : Nat) (σ : QSt) : Option (QSt × Int) := exprsQ L f 2 σ 0
def andQ (L : List Tk) (f : Nat) (σ : QSt) (w : Int) : Option (QSt × Int) := exprsQ L f 3 σ w
def factorQ (L : List Tk) (f : Nat) (σ : QSt) : Option (QSt × Int) := exprsQ L f 4 σ 0
def bracketedQ (L : List Tk) (f : Nat) (σ : QSt) : Option (QSt × Int) := exprsQ L f 5 σ 0
theorem exprQ_zero (L : List Tk) (σ : QSt) : exprQ L 0 σ = none := rfl
theorem orQ_zero (L : List Tk) (σ : QSt) (w : Int) : orQ L 0 σ w = none := rfl
theorem termQ_zero (L : List Tk) (σ : QSt) : termQ L 0 σ = none := rfl
theorem andQ_zero (L : List Tk) (σ : QSt) (w : Int) : andQ L 0 σ w = none := rfl
theorem factorQ_zero (L : List Tk) (σ : QSt) : factorQ L 0 σ = none := rfl
theorem bracketedQ_zero (L : List Tk) (σ : QSt) : bracketedQ L 0 σ = none := rfl
theorem exprQ_succ (L : List Tk) (f : Nat) (σ : QSt) : exprQ L (f + 1) σ = (termQ L f σ).bind fun r => orQ L f r.1 r.2 := rfl
theorem orQ_succ (L : List Tk) (f : Nat) (σ : QSt) (w : Int) : orQ L (f + 1) σ w = if σ.p.sees L ⟨#[124]⟩ then (termQ L f (σ.setp σ.p.step)).bind fun r => orQ L f (r.1.node ⟨6, -1, w, r.2⟩) r.1.nds.length else some (σ, w) := rfl
theorem termQ_succ (L : List Tk) (f : Nat) (σ : QSt) : termQ L (f + 1) σ = (factorQ L f σ).bind fun r => andQ L f r.1 r.2 := rfl
theorem andQ_succ (L : List Tk) (f : Nat) (σ : QSt) (w : Int) : andQ L (f + 1) σ w = if σ.p.sees L ⟨#[38]⟩ then (factorQ L f (σ.setp σ.p.step)).bind fun r => andQ L f (r.1.node ⟨5, -1, w, r.2⟩) r.1.nds.length else some (σ, w) := rfl
theorem factorQ_succ (L : List Tk) (f : Nat) (σ : QSt) : factorQ L (f + 1) σ = (notsQ L f σ 0).bind fun r => (plainQ L (bracketedQ L f) r.1).map fun q => addNots r.2 q.1 q.2 := rfl
theorem bracketedQ_succ (L : List Tk) (f : Nat) (σ : QSt) : bracketedQ L (f + 1) σ = (exprQ L f (σ.setp (enterP L σ.p ⟨#[40]⟩))).map fun r => (r.1.setp (leaveP L r.1.p ⟨#[41]⟩), r.2) := rfl

def valueQ (L : List Tk) (f : Nat) (σ : QSt) (v : List (Int × Int)) : Option (QSt × List (Int × Int)) := (exprQ L f σ).map fun r => (r.1, v ++ [((σ.nds.length : Int), r.2)])
def valuesQ (L : List Tk) : Nat → QSt → List (Int × Int) → Option (QSt × List (Int × Int))
  | 0, _, _ => none
  | f + 1, σ, v => if σ.p.sees L ⟨#[44]⟩ then (valueQ L f (σ.setp σ.p.step) v).bind fun r => valuesQ L f r.1 r.2 else some (σ, v)
def condQ (L : List Tk) : Nat → QSt → List (Int × Int) → Option (QSt × List (Int × Int))
  | 0, _, _ => none
  | f + 1, σ, v => (valueQ L f (σ.setp (enterP L σ.p ⟨#[40]⟩)) v).map fun r => (r.1.setp (leaveP L r.1.p ⟨#[41]⟩), r.2)

def callQ (L : List Tk) (f : Nat) (σ : QSt) (s : Stm) : Option (QSt × Stm) :=
  (if (enterP L (σ.p.takeName L 6) ⟨#[40]⟩).sees L ⟨#[41]⟩ then some (σ.setp (enterP L (σ.p.takeName L 6) ⟨#[40]⟩), s.vals)
   else (valueQ L f (σ.setp (enterP L (σ.p.takeName L 6) ⟨#[40]⟩)) s.vals).bind fun r => valuesQ L f r.1 r.2).map fun r =>
    (r.1.setp { leaveP L r.1.p ⟨#[41]⟩ with calls := (leaveP L r.1.p ⟨#[41]⟩).calls ++ [⟨(σ.p.ahead L 0).t, (σ.p.ahead L 0).p, r.2.length⟩] }, { s with name := nameIx L σ.p, vals := r.2 })
def assignedQ (L : List Tk) (f : Nat) (σ : QSt) (s : Stm) : Option (QSt × Stm) :=
  if σ.p.seesCall L then callQ L f σ s else (valueQ L f σ s.vals).map fun r => (r.1, { s with kind := 0, vals := r.2 })
def aocQ (L : List Tk) (f : Nat) (σ : QSt) (s : Stm) : Option QSt :=
  (if σ.p.seesCall L then callQ L f σ { s with kind := 1 } else assignedQ L f (σ.setp ((σ.p.takeName L 4).take L ⟨#[61]⟩)) { s with kind := 1, target := nameIx L σ.p }).map fun r => (r.1.setp (r.1.p.take L ⟨#[59]⟩)).add r.2
def giveBackQ (L : List Tk) (f : Nat) (σ : QSt) (s : Stm) : Option QSt :=
  (if (σ.p.take L ⟨#[114, 101, 116, 117, 114, 110]⟩).sees L ⟨#[59]⟩ then some (σ.setp (σ.p.take L ⟨#[114, 101, 116, 117, 114, 110]⟩), s.vals) else valueQ L f (σ.setp (σ.p.take L ⟨#[114, 101, 116, 117, 114, 110]⟩)) s.vals).map fun r =>
    (r.1.setp (r.1.p.take L ⟨#[59]⟩)).add { s with kind := 7, vals := r.2 }
def assumeQ (L : List Tk) (f : Nat) (σ : QSt) (s : Stm) : Option QSt :=
  (valueQ L f (σ.setp (σ.p.take L ⟨#[97, 115, 115, 117, 109, 101]⟩)) s.vals).map fun r => (r.1.setp (r.1.p.take L ⟨#[59]⟩)).add { s with kind := 4, vals := r.2 }
def lockUseQ (L : List Tk) (σ : QSt) (s : Stm) (t : ByteArray) : QSt :=
  (σ.setp (((σ.p.take L t).takeName L 5).take L ⟨#[59]⟩)).add { s with name := nameIx L (σ.p.take L t) }
def skipQ (L : List Tk) (σ : QSt) (s : Stm) : QSt := (σ.setp ((σ.p.take L ⟨#[115, 107, 105, 112]⟩).take L ⟨#[59]⟩)).add { s with kind := 8 }

def newStm (L : List Tk) (σ : QSt) (b : Blk) : Stm := ⟨0, (σ.p.ahead L 0).p, b, -1, -1, []⟩

def blocksQ (L : List Tk) : Nat → Nat → QSt → Blk → Option (QSt × Nat)
  | 0, _, _, _ => none
  | f + 1, 0, σ, b => (blocksQ L f 1 (σ.setp (enterP L σ.p ⟨#[123]⟩)) b).map fun τ => (τ.1.setp (leaveP L τ.1.p ⟨#[125]⟩), (τ.1.p.ahead L 0).p)
  | f + 1, 1, σ, b => if σ.p.failed = false ∧ σ.p.sees L ⟨#[125]⟩ = false then (blocksQ L f 2 σ b).bind fun τ => blocksQ L f 1 τ.1 b else some (σ, 0)
  | f + 1, 2, σ, b =>
    if (σ.p.ahead L 0).t = ⟨#[105, 102]⟩ then blocksQ L f 3 σ b
    else if (σ.p.ahead L 0).t = ⟨#[119, 104, 105, 108, 101]⟩ then (condQ L f (σ.setp (σ.p.take L ⟨#[119, 104, 105, 108, 101]⟩)) []).bind fun a => (blocksQ L f 0 (a.1.add { newStm L σ b with kind := 3, vals := a.2 }) ⟨b.proc, a.1.sts.length, false⟩).map fun c => (c.1, 0)
    else if (σ.p.ahead L 0).t = ⟨#[97, 115, 115, 117, 109, 101]⟩ then (assumeQ L f σ (newStm L σ b)).map fun c => (c, 0)
    else if (σ.p.ahead L 0).t = ⟨#[97, 99, 113, 117, 105, 114, 101]⟩ then some (lockUseQ L σ { newStm L σ b with kind := 5 } (σ.p.ahead L 0).t, 0)
    else if (σ.p.ahead L 0).t = ⟨#[114, 101, 108, 101, 97, 115, 101]⟩ then some (lockUseQ L σ { newStm L σ b with kind := 6 } (σ.p.ahead L 0).t, 0)
    else if (σ.p.ahead L 0).t = ⟨#[114, 101, 116, 117, 114, 110]⟩ then (giveBackQ L f σ (newStm L σ b)).map fun c => (c, 0)
    else if (σ.p.ahead L 0).t = ⟨#[115, 107, 105, 112]⟩ then some (skipQ L σ (newStm L σ b), 0)
    else (aocQ L f σ (newStm L σ b)).map fun c => (c, 0)
  | f + 1, _, σ, b => (condQ L f (σ.setp (σ.p.take L ⟨#[105, 102]⟩)) []).bind fun a =>
      (blocksQ L f 0 (a.1.add { newStm L σ b with kind := 2, vals := a.2 }) ⟨b.proc, a.1.sts.length, false⟩).bind fun c =>
        if c.1.p.sees L ⟨#[101, 108, 115, 101]⟩ then (blocksQ L f 0 (c.1.setp c.1.p.step) ⟨b.proc, a.1.sts.length, true⟩).map fun d => (d.1, 0) else some (c.1, 0)
def blockQ (L : List Tk) (f : Nat) (σ : QSt) (b : Blk) : Option (QSt × Nat) := blocksQ L f 0 σ b
def stmtsQ (L : List Tk) (f : Nat) (σ : QSt) (b : Blk) : Option (QSt × Nat) := blocksQ L f 1 σ b
def statementQ (L : List Tk) (f : Nat) (σ : QSt) (b : Blk) : Option (QSt × Nat) := blocksQ L f 2 σ b
def branchQ (L : List Tk) (f : Nat) (σ : QSt) (b : Blk) : Option (QSt × Nat) := blocksQ L f 3 σ b
def loopQ (L : List Tk) (f : Nat) (σ : QSt) (b : Blk) : Option (QSt × Nat) := (condQ L f (σ.setp (σ.p.take L ⟨#[119, 104, 105, 108, 101]⟩)) []).bind fun a => (blockQ L f (a.1.add { newStm L σ b with kind := 3, vals := a.2 }) ⟨b.proc, a.1.sts.length, false⟩).map fun c => (c.1, 0)
theorem blockQ_zero (L : List Tk) (σ : QSt) (b : Blk) : blockQ L 0 σ b = none := rfl
theorem stmtsQ_zero (L : List Tk) (σ : QSt) (b : Blk) : stmtsQ L 0 σ b = none := rfl
theorem statementQ_zero (L : List Tk) (σ : QSt) (b : Blk) : statementQ L 0 σ b = none := rfl
theorem branchQ_zero (L : List Tk) (σ : QSt) (b : Blk) : branchQ L 0 σ b = none := rfl
theorem blockQ_succ (L : List Tk) (f : Nat) (σ : QSt) (b : Blk) : blockQ L (f + 1) σ b = (stmtsQ L f (σ.setp (enterP L σ.p ⟨#[123]⟩)) b).map fun τ => (τ.1.setp (leaveP L τ.1.p ⟨#[125]⟩), (τ.1.p.ahead L 0).p) := rfl
theorem stmtsQ_succ (L : List Tk) (f : Nat) (σ : QSt) (b : Blk) : stmtsQ L (f + 1) σ b = if σ.p.failed = false ∧ σ.p.sees L ⟨#[125]⟩ = false then (statementQ L f σ b).bind fun τ => stmtsQ L f τ.1 b else some (σ, 0) := rfl
theorem statementQ_succ (L : List Tk) (f : Nat) (σ : QSt) (b : Blk) : statementQ L (f + 1) σ b =
    if (σ.p.ahead L 0).t = ⟨#[105, 102]⟩ then branchQ L f σ b
    else if (σ.p.ahead L 0).t = ⟨#[119, 104, 105, 108, 101]⟩ then loopQ L f σ b
    else if (σ.p.ahead L 0).t = ⟨#[97, 115, 115, 117, 109, 101]⟩ then (assumeQ L f σ (newStm L σ b)).map fun c => (c, 0)
    else if (σ.p.ahead L 0).t = ⟨#[97, 99, 113, 117, 105, 114, 101]⟩ then some (lockUseQ L σ { newStm L σ b with kind := 5 } (σ.p.ahead L 0).t, 0)
    else if (σ.p.ahead L 0).t = ⟨#[114, 101, 108, 101, 97, 115, 101]⟩ then some (lockUseQ L σ { newStm L σ b with kind := 6 } (σ.p.ahead L 0).t, 0)
    else if (σ.p.ahead L 0).t = ⟨#[114, 101, 116, 117, 114, 110]⟩ then (giveBackQ L f σ (newStm L σ b)).map fun c => (c, 0)
    else if (σ.p.ahead L 0).t = ⟨#[115, 107, 105, 112]⟩ then some (skipQ L σ (newStm L σ b), 0)
    else (aocQ L f σ (newStm L σ b)).map fun c => (c, 0) := rfl
theorem branchQ_succ (L : List Tk) (f : Nat) (σ : QSt) (b : Blk) : branchQ L (f + 1) σ b = (condQ L f (σ.setp (σ.p.take L ⟨#[105, 102]⟩)) []).bind fun a =>
      (blockQ L f (a.1.add { newStm L σ b with kind := 2, vals := a.2 }) ⟨b.proc, a.1.sts.length, false⟩).bind fun c =>
        if c.1.p.sees L ⟨#[101, 108, 115, 101]⟩ then (blockQ L f (c.1.setp c.1.p.step) ⟨b.proc, a.1.sts.length, true⟩).map fun d => (d.1, 0) else some (c.1, 0) := rfl

def procedureQ (L : List Tk) (f : Nat) (σ : QSt) : Option QSt :=
  let a := σ.p.take L ⟨#[112, 114, 111, 99]⟩
  let d := enterP L (({ a with proc := wrap64 (a.proc + 1) } : PSt).takeName L 2) ⟨#[40]⟩
  (if d.sees L ⟨#[41]⟩ then some d else moreP L 3 f (d.takeName L 3)).bind fun e =>
    (blockQ L f (σ.setp (leaveP L e ⟨#[41]⟩)) ⟨(leaveP L e ⟨#[41]⟩).proc, -1, false⟩).map fun r => r.1.add ⟨9, r.2, ⟨(leaveP L e ⟨#[41]⟩).proc, -1, false⟩, -1, -1, []⟩
def procsQ (L : List Tk) : Nat → QSt → Option QSt
  | 0, _ => none
  | f + 1, σ => if σ.p.sees L ⟨#[112, 114, 111, 99]⟩ then (procedureQ L f σ).bind (procsQ L f) else some σ
def programQ (L : List Tk) (f : Nat) (σ : QSt) : Option QSt :=
  (listP L f ⟨#[115, 104, 97, 114, 101, 100]⟩ 0 σ.p).bind fun a => (listP L f ⟨#[108, 111, 99, 107, 115]⟩ 1 a).bind fun b => (procedureQ L f (σ.setp b)).bind fun c => (procsQ L f c).bind fun d =>
    (moreP L 7 f ((d.p.take L ⟨#[116, 104, 114, 101, 97, 100, 115]⟩).takeName L 7)).map fun e => d.setp (takeEndP L (e.take L ⟨#[59]⟩))

end RR

namespace RR
open Go Go.RowKit

structure Tru where
  own : Nat
  num : Int
structure PNd where
  sign : Nat
  tr : Tru
  left : Int
  right : Int
structure PLine where
  kind : Nat
  at_ : Nat
  params : Int
  next : Int
  thn : Int
  els : Int
  target : Tru
  lock : Int
  proc : Int
  vals : List (Int × Int)
  choice : Bool
  r0 : Bool
  r1 : Bool
  r2 : Bool
  r3 : Bool
structure PProc where
  params : Int
  entry : Int
structure Plan where
  shared : Nat
  locks : Nat
  threads : List Int
  procs : List PProc
  lines : List PLine
  nodes : List PNd

def numF (word : ByteArray) (role : Nat) : List Nm → Nat → Int
  | [], _ => -1
  | n :: r, k => if n.role = role then (if n.word = word then (k : Int) else numF word role r (k + 1)) else numF word role r k
def parF (word : ByteArray) (proc : Int) : List Nm → Nat → Int
  | [], _ => -1
  | n :: r, k => if n.role = 3 ∧ n.proc = proc then (if n.word = word then (k : Int) else parF word proc r (k + 1)) else parF word proc r k
def cntF (proc : Int) : List Nm → Nat → Nat
  | [], k => k
  | n :: r, k => if n.role = 3 ∧ n.proc = proc then cntF proc r (k + 1) else cntF proc r k
def truthF (ns : List Nm) (i : Int) : Tru :=
  if 0 ≤ i ∧ i < ns.length then
    (if 0 ≤ numF (nmAt ns i.toNat).word 0 ns 0 then ⟨1, numF (nmAt ns i.toNat).word 0 ns 0⟩
     else if 0 ≤ parF (nmAt ns i.toNat).word (nmAt ns i.toNat).proc ns 0 then ⟨2, parF (nmAt ns i.toNat).word (nmAt ns i.toNat).proc ns 0⟩
     else ⟨0, 0⟩)
  else ⟨0, 0⟩
def nwordF (ns : List Nm) (i : Int) : ByteArray := if 0 ≤ i ∧ i < ns.length then (nmAt ns i.toNat).word else ⟨#[]⟩

def blkEq (a b : Blk) : Bool := decide (a.proc = b.proc) && (decide (a.owner = b.owner) && (a.els == b.els))
def firstInF (b : Blk) (frm : Int) : List Stm → Nat → Option Nat
  | [], _ => none
  | s :: r, i => if frm ≤ (i : Int) then (if blkEq s.blk b then some i else firstInF b frm r (i + 1)) else firstInF b frm r (i + 1)
def noStm : Stm := ⟨9, 0, ⟨0, 0, false⟩, 0, 0, []⟩
def stmAt (l : List Stm) (k : Nat) : Stm := l[k]?.getD noStm
def nextF (l : List Stm) : Nat → Blk → Option Nat → Int → Int
  | 0, _, _, _ => 0
  | _ + 1, _, some k, _ => (k : Int)
  | f + 1, b, none, last =>
    if 0 ≤ b.owner ∧ b.owner < last then
      (if (stmAt l b.owner.toNat).kind = 3 then b.owner
       else nextF l f (stmAt l b.owner.toNat).blk (firstInF (stmAt l b.owner.toNat).blk (b.owner + 1) l 0) b.owner)
    else 0
def comesF (l : List Stm) (b : Blk) (frm : Int) : Int := nextF l (l.length + 1) b (firstInF b frm l 0) l.length
def enteredF (l : List Stm) (b : Blk) : Int := comesF l b 0

def addNameF (ns : List Nm) (sts : List Stm) (p : Plan) (n : Nm) : Plan :=
  if n.role = 0 then { p with shared := p.shared + 1 }
  else if n.role = 1 then { p with locks := p.locks + 1 }
  else if n.role = 2 then { p with procs := p.procs ++ [⟨cntF n.proc ns 0, enteredF sts ⟨n.proc, -1, false⟩⟩] }
  else if n.role = 7 then { p with threads := p.threads ++ [numF n.word 2 ns 0] }
  else p
def nodeF (ns : List Nm) (n : Nd) : PNd := ⟨n.sign, truthF ns n.name, n.left, n.right⟩
def noNode : PNd := ⟨0, ⟨0, 0⟩, 0, 0⟩
def pnAt (l : List PNd) (k : Nat) : PNd := l[k]?.getD noNode
def PLine.read (a : PLine) : Nat → PLine
  | 0 => { a with r0 := true }
  | 1 => { a with r1 := true }
  | 2 => { a with r2 := true }
  | _ => { a with r3 := true }
def look1 (a : PLine) (n : PNd) : PLine :=
  let b := if n.sign = 2 then { a with choice := true } else a
  if n.tr.own = 1 ∧ 0 ≤ n.tr.num ∧ n.tr.num < 4 then b.read n.tr.num.toNat else b
def lookG (nodes : List PNd) (last : Int) : Nat → Int → PLine → PLine
  | 0, _, a => a
  | f + 1, i, a => if 0 ≤ i ∧ i ≤ last ∧ i < nodes.length then lookG nodes last f (i + 1) (look1 a (pnAt nodes i.toNat)) else a
def lookF (nodes : List PNd) (a : PLine) (e : Int × Int) : PLine := lookG nodes e.2 (nodes.length + 1) e.1 a
def valF (nodes : List PNd) (a : PLine) (e : Int × Int) : PLine := lookF nodes { a with vals := a.vals ++ [e] } e
def headF (ns : List Nm) (sts : List Stm) (i : Nat) (s : Stm) : PLine :=
  let a : PLine := ⟨s.kind, s.at_, cntF s.blk.proc ns 0, comesF sts s.blk ((i : Int) + 1), 0, 0, truthF ns s.target, 0, 0, [], false, false, false, false, false⟩
  if s.kind = 2 then { a with thn := enteredF sts ⟨s.blk.proc, i, false⟩, els := enteredF sts ⟨s.blk.proc, i, true⟩ }
  else if s.kind = 3 then { a with thn := enteredF sts ⟨s.blk.proc, i, false⟩, els := a.next }
  else if s.kind = 5 ∨ s.kind = 6 then { a with lock := numF (nwordF ns s.name) 1 ns 0 }
  else if s.kind = 1 then { a with proc := numF (nwordF ns s.name) 2 ns 0 }
  else a
def lineF (ns : List Nm) (sts : List Stm) (nodes : List PNd) (i : Nat) (s : Stm) : PLine := s.vals.foldl (valF nodes) (headF ns sts i s)
def linesF (ns : List Nm) (sts : List Stm) (nodes : List PNd) : List Stm → Nat → List PLine
  | [], _ => []
  | s :: r, i => lineF ns sts nodes i s :: linesF ns sts nodes r (i + 1)
def emptyPlan : Plan := ⟨0, 0, [], [], [], []⟩
def planF (ns : List Nm) (sts : List Stm) (nds : List Nd) : Plan :=
  let p := ns.foldl (addNameF ns sts) emptyPlan
  { p with nodes := nds.map (nodeF ns), lines := linesF ns sts (nds.map (nodeF ns)) sts 0 }

end RR

namespace Go.Proofs.YtmfcpbhdggonfaaGreatDoor
open Go.RowKit RR

def Flat (w : World) (ao : Option Addr) (xs : List Value) : Prop := xs = [] ∨ ∃ b o, b < w.heap.size ∧ ao = some ⟨b, o, none⟩ ∧ w.rangeAt b o xs

theorem Flat.below {w w' : World} {ao : Option Addr} {xs : List Value} (h : Flat w ao xs) (hb : Below w.heap.size w w') : Flat w' ao xs := by
  rcases h with h | ⟨b, o, h1, h2, h3⟩
  · exact .inl h
  · exact .inr ⟨b, o, Nat.lt_of_lt_of_le h1 hb.size, h2, fun j v hv => (hb.cell (p := ⟨b, o + j, none⟩) h1).trans (h3 j v hv)⟩

theorem flatMap_at {α : Type} (f : α → List Value) (n : Nat) (hn : ∀ a, (f a).length = n) : ∀ (l : List α) (i : Nat) (h : i < l.length) (j : Nat), j < n → (l.flatMap f)[i * n + j]? = (f l[i])[j]?
  | [], i, h, j, hj => by simp at h
  | a :: r, 0, h, j, hj => by
    rw [List.flatMap_cons, List.getElem?_append_left (by rw [hn]; omega)]
    simp
  | a :: r, i + 1, h, j, hj => by
    rw [List.flatMap_cons, List.getElem?_append_right (by rw [hn, Nat.succ_mul]; omega)]
    have := flatMap_at f n hn r i (by simpa using h) j hj
    rw [hn, Nat.succ_mul, show i * n + n + j - n = i * n + j by omega, this]
    simp

theorem Flat.get {α : Type} {f : α → List Value} {n : Nat} (hn : ∀ a, (f a).length = n) (hp : 0 < n) {w : World} {ao : Option Addr} {l : List α} (h : Flat w ao (l.flatMap f)) (i : Nat) (hi : i < l.length) : ∃ b o, b < w.heap.size ∧ ao = some ⟨b, o, none⟩ ∧ w.rangeAt b (o + i * n) (f l[i]) := by
  rcases h with h | ⟨b, o, h1, h2, h3⟩
  · have := flatMap_at f n hn l i hi 0 hp
    have h2 : (f l[i])[0]? = none := by rw [← this, h]; rfl
    have h3 := List.getElem?_eq_none_iff.1 h2
    rw [hn] at h3
    omega
  · refine ⟨b, o, h1, h2, fun j v hv => ?_⟩
    have hj : j < n := by
      have := (List.getElem?_eq_some_iff.1 hv).1
      rw [hn] at this
      exact this
    rw [show o + i * n + j = o + (i * n + j) by omega]
    exact h3 (i * n + j) v ((flatMap_at f n hn l i hi j hj).trans hv)

theorem flat_of_owns {w : World} {base : Nat} {e : TypeId} {size : Nat} {v : Value} {n : Nat} {xs : List Value} (h : w.ownsRow base e size v n xs) : ∃ ao cap, v = .slice ao n cap ∧ Flat w ao xs := by
  obtain ⟨h1, h2 | ⟨g, cap, cur, hv, hb, hh, hcap, hmax, hsz, htk⟩⟩ := h
  · refine ⟨none, 0, ?_, .inl ?_⟩
    · rw [h2.1, h2.2]
    · exact List.eq_nil_of_length_eq_zero (by rw [h1, h2.2, Nat.zero_mul])
  · refine ⟨some ⟨g, 0, none⟩, cap, hv, .inr ⟨g, 0, (Array.getElem?_eq_some_iff.1 hh).1, rfl, fun j x hx => ?_⟩⟩
    have e2 : (cur.toList.take (n * size))[j]? = xs[j]? := by rw [htk]
    have hj := (List.getElem?_eq_some_iff.1 hx).1
    rw [List.getElem?_take_of_lt (by omega), Array.getElem?_toList] at e2
    simp only [World.cell?, hh, Nat.zero_add]
    rw [e2, hx]
    rfl

def ndC (n : Nd) : List Value := [.int .i64 n.sign, .int .i64 n.name, .int .i64 n.left, .int .i64 n.right]
def exC (n : Int × Int) : List Value := [.int .i64 n.1, .int .i64 n.2]
def stC (x : Stm × Value) : List Value := [.int .i64 x.1.kind, .int .i64 x.1.at_, .int .i64 x.1.blk.proc, .int .i64 x.1.blk.owner, .bool x.1.blk.els, .int .i64 x.1.target, .int .i64 x.1.name, x.2]
def ExSl (w : World) (v : Value) (l : List (Int × Int)) : Prop := ∃ ao cap, v = .slice ao l.length cap ∧ Flat w ao (l.flatMap exC)
def StSl (w : World) (ao : Option Addr) (sts : List Stm) : Prop := ∃ l : List (Stm × Value), l.map Prod.fst = sts ∧ Flat w ao (l.flatMap stC) ∧ ∀ x ∈ l, ExSl w x.2 x.1.vals
def NdSl (w : World) (ao : Option Addr) (l : List Nd) : Prop := Flat w ao (l.flatMap ndC)
theorem ExSl.below {w w' : World} {v : Value} {l : List (Int × Int)} (h : ExSl w v l) (hb : Below w.heap.size w w') : ExSl w' v l := by
  obtain ⟨ao, cap, h1, h2⟩ := h
  exact ⟨ao, cap, h1, h2.below hb⟩
theorem StSl.below {w w' : World} {ao : Option Addr} {l : List Stm} (h : StSl w ao l) (hb : Below w.heap.size w w') : StSl w' ao l := by
  obtain ⟨m, h1, h2, h3⟩ := h
  exact ⟨m, h1, h2.below hb, fun x hx => (h3 x hx).below hb⟩
theorem NdSl.below {w w' : World} {ao : Option Addr} {l : List Nd} (h : NdSl w ao l) (hb : Below w.heap.size w w') : NdSl w' ao l := Flat.below h hb

end Go.Proofs.YtmfcpbhdggonfaaGreatDoor

namespace Go.Proofs.YtmfcpbhdggonfaaGreatDoor
open Go.RowKit RR

theorem ret_str {a b : ByteArray} (h : a = b) : Ending.returned (.string a) = .returned (.string b) := by rw [h]
theorem numF_drop {t : ByteArray} {r : Nat} {l : List Nm} {k c : Nat} (h : k < l.length) : numF t r (l.drop k) c = if l[k].role = r then (if l[k].word = t then (c : Int) else numF t r (l.drop (k + 1)) (c + 1)) else numF t r (l.drop (k + 1)) c := by
  rw [List.drop_eq_getElem_cons h]; rfl
theorem parF_drop {t : ByteArray} {q : Int} {l : List Nm} {k c : Nat} (h : k < l.length) : parF t q (l.drop k) c = if l[k].role = 3 ∧ l[k].proc = q then (if l[k].word = t then (c : Int) else parF t q (l.drop (k + 1)) (c + 1)) else parF t q (l.drop (k + 1)) c := by
  rw [List.drop_eq_getElem_cons h]; rfl
theorem cntF_drop {q : Int} {l : List Nm} {k c : Nat} (h : k < l.length) : cntF q (l.drop k) c = if l[k].role = 3 ∧ l[k].proc = q then cntF q (l.drop (k + 1)) (c + 1) else cntF q (l.drop (k + 1)) c := by
  rw [List.drop_eq_getElem_cons h]; rfl

set_option maxRecDepth 100000 in
set_option maxHeartbeats 1000000 in
theorem pn_numberOf (ao : Option Addr) (cap : Nat) (l : List Nm) (t : ByteArray) (r : Nat) (w : World) (hl : l.length ≤ 1000) (hi : NmSl w ao l) :
    Calls Tryz.prog 145 #[.slice ao l.length cap, .string t, .int .i64 r] w fun e w' => e = .returned (.int .i64 (numF t r l 0)) ∧ Below w.heap.size w w' := by
  go_enter Tryz.func145, Tryz.ntmps145
  go_wp2
  go_loopw [7, 12] (fun v u wr => ∃ k c : Nat, u = .int .i64 k ∧ v = .int .i64 c ∧ k ≤ l.length ∧ c ≤ k ∧ numF t r (l.drop k) c = numF t r l 0 ∧ Below w.heap.size w wr) (fun _ u _ => l.length - (intOf u).toNat)
  case atStart => exact ⟨0, 0, rfl, rfl, Nat.zero_le _, Nat.le_refl _, rfl, Below.refl _ _⟩
  case round =>
    obtain ⟨k, c, rfl, rfl, hk, hc, hn, hbel⟩ := hrel
    have HN := hide hn
    clear hn
    by_cases hlt : k < l.length
    · obtain ⟨b, o, hb, hao, c1, c2, c3, c4⟩ := (hi.below hbel) k hlt
      subst hao
      have HS := hide (numF_drop (t := t) (r := r) (c := c) hlt)
      by_cases hr : (l[k].role : Int) = r
      · have hr' : ((l[k].role : Int) == r) = true := beq_iff_eq.2 hr
        have HR : Hid (l[k].role = r) := by show _ = _; omega
        cases hw : (l[k].word.toList == t.toList)
        · have HW : Hid (¬ l[k].word = t) := fun e => by rw [e] at hw; simp at hw
          clear hr
          go_wp2
          go_roundw
          case rel => exact ⟨k + 1, c + 1, by go_num, by go_num, by omega, by omega, by rw [← HN.out, HS.out, if_pos HR.out, if_neg HW.out], hbel.alloc hbel.size _⟩
          case measure => simp [intOf]; omega
        · have HW : Hid (l[k].word = t) := toList_inj.1 (by simpa using hw)
          clear hr
          go_wp2
          go_ret
          exact ⟨ret_int (by rw [← HN.out, HS.out, if_pos HR.out, if_pos HW.out]), hbel.alloc hbel.size _⟩
      · have hr' : ((l[k].role : Int) == r) = false := beq_eq_false_iff_ne.2 hr
        have HR : Hid (¬ l[k].role = r) := fun e => hr (by omega)
        clear hr
        go_wp2
        go_roundw
        case rel => exact ⟨k + 1, c, by go_num, rfl, by omega, by omega, by rw [← HN.out, HS.out, if_neg HR.out], hbel.alloc hbel.size _⟩
        case measure => simp [intOf]; omega
    · go_wp2
      go_ret
      exact ⟨ret_int (by rw [← HN.out, List.drop_of_length_le (by omega)]; rfl), hbel⟩

set_option maxRecDepth 100000 in
set_option maxHeartbeats 1000000 in
theorem pn_paramOf (ao : Option Addr) (cap : Nat) (l : List Nm) (t : ByteArray) (q : Int) (w : World) (hl : l.length ≤ 1000) (hi : NmSl w ao l) :
    Calls Tryz.prog 146 #[.slice ao l.length cap, .string t, .int .i64 q] w fun e w' => e = .returned (.int .i64 (parF t q l 0)) ∧ Below w.heap.size w w' := by
  go_enter Tryz.func146, Tryz.ntmps146
  go_wp2
  go_loopw [7, 13] (fun v u wr => ∃ k c : Nat, u = .int .i64 k ∧ v = .int .i64 c ∧ k ≤ l.length ∧ c ≤ k ∧ parF t q (l.drop k) c = parF t q l 0 ∧ Below w.heap.size w wr) (fun _ u _ => l.length - (intOf u).toNat)
  case atStart => exact ⟨0, 0, rfl, rfl, Nat.zero_le _, Nat.le_refl _, rfl, Below.refl _ _⟩
  case round =>
    obtain ⟨k, c, rfl, rfl, hk, hc, hn, hbel⟩ := hrel
    have HN := hide hn
    clear hn
    by_cases hlt : k < l.length
    · obtain ⟨b, o, hb, hao, c1, c2, c3, c4⟩ := (hi.below hbel) k hlt
      subst hao
      have HS := hide (parF_drop (t := t) (q := q) (c := c) hlt)
      by_cases hr : (l[k].role : Int) = 3
      · have hr' : ((l[k].role : Int) == 3) = true := beq_iff_eq.2 hr
        have HR : Hid (l[k].role = 3) := by show _ = _; omega
        by_cases hq : l[k].proc = q
        · have hq' : (l[k].proc == q) = true := beq_iff_eq.2 hq
          have HQ := hide hq
          cases hw : (l[k].word.toList == t.toList)
          · have HW : Hid (¬ l[k].word = t) := fun e => by rw [e] at hw; simp at hw
            clear hr hq
            go_wp2
            go_roundw
            case rel => exact ⟨k + 1, c + 1, by go_num, by go_num, by omega, by omega, by rw [← HN.out, HS.out, if_pos ⟨HR.out, HQ.out⟩, if_neg HW.out], hbel.alloc hbel.size _⟩
            case measure => simp [intOf]; omega
          · have HW : Hid (l[k].word = t) := toList_inj.1 (by simpa using hw)
            clear hr hq
            go_wp2
            go_ret
            exact ⟨ret_int (by rw [← HN.out, HS.out, if_pos ⟨HR.out, HQ.out⟩, if_pos HW.out]), hbel.alloc hbel.size _⟩
        · have hq' : (l[k].proc == q) = false := beq_eq_false_iff_ne.2 hq
          have HQ : Hid (¬ (l[k].role = 3 ∧ l[k].proc = q)) := fun e => hq e.2
          clear hr hq
          go_wp2
          go_roundw
          case rel => exact ⟨k + 1, c, by go_num, rfl, by omega, by omega, by rw [← HN.out, HS.out, if_neg HQ.out], hbel.alloc hbel.size _⟩
          case measure => simp [intOf]; omega
      · have hr' : ((l[k].role : Int) == 3) = false := beq_eq_false_iff_ne.2 hr
        have HR : Hid (¬ (l[k].role = 3 ∧ l[k].proc = q)) := fun e => hr (by omega)
        clear hr
        go_wp2
        go_roundw
        case rel => exact ⟨k + 1, c, by go_num, rfl, by omega, by omega, by rw [← HN.out, HS.out, if_neg HR.out], hbel.alloc hbel.size _⟩
        case measure => simp [intOf]; omega
    · go_wp2
      go_ret
      exact ⟨ret_int (by rw [← HN.out, List.drop_of_length_le (by omega)]; rfl), hbel⟩

set_option maxRecDepth 100000 in
set_option maxHeartbeats 1000000 in
theorem pn_paramsOf (ao : Option Addr) (cap : Nat) (l : List Nm) (q : Int) (w : World) (hl : l.length ≤ 1000) (hi : NmSl w ao l) :
    Calls Tryz.prog 143 #[.slice ao l.length cap, .int .i64 q] w fun e w' => e = .returned (.int .i64 (cntF q l 0)) ∧ Below w.heap.size w w' := by
  go_enter Tryz.func143, Tryz.ntmps143
  go_wp2
  go_loopw [5, 10] (fun v u wr => ∃ k c : Nat, u = .int .i64 k ∧ v = .int .i64 c ∧ k ≤ l.length ∧ c ≤ k ∧ cntF q (l.drop k) c = cntF q l 0 ∧ Below w.heap.size w wr) (fun _ u _ => l.length - (intOf u).toNat)
  case atStart => exact ⟨0, 0, rfl, rfl, Nat.zero_le _, Nat.le_refl _, rfl, Below.refl _ _⟩
  case round =>
    obtain ⟨k, c, rfl, rfl, hk, hc, hn, hbel⟩ := hrel
    have HN := hide hn
    clear hn
    by_cases hlt : k < l.length
    · obtain ⟨b, o, hb, hao, c1, c2, c3, c4⟩ := (hi.below hbel) k hlt
      subst hao
      have HS := hide (cntF_drop (q := q) (c := c) hlt)
      by_cases hr : (l[k].role : Int) = 3
      · have hr' : ((l[k].role : Int) == 3) = true := beq_iff_eq.2 hr
        have HR : Hid (l[k].role = 3) := by show _ = _; omega
        by_cases hq : l[k].proc = q
        · have hq' : (l[k].proc == q) = true := beq_iff_eq.2 hq
          have HQ := hide hq
          clear hr hq
          go_wp2
          go_roundw
          case rel => exact ⟨k + 1, c + 1, by go_num, by go_num, by omega, by omega, by rw [← HN.out, HS.out, if_pos ⟨HR.out, HQ.out⟩], hbel.alloc hbel.size _⟩
          case measure => simp [intOf]; omega
        · have hq' : (l[k].proc == q) = false := beq_eq_false_iff_ne.2 hq
          have HQ : Hid (¬ (l[k].role = 3 ∧ l[k].proc = q)) := fun e => hq e.2
          clear hr hq
          go_wp2
          go_roundw
          case rel => exact ⟨k + 1, c, by go_num, rfl, by omega, by omega, by rw [← HN.out, HS.out, if_neg HQ.out], hbel.alloc hbel.size _⟩
          case measure => simp [intOf]; omega
      · have hr' : ((l[k].role : Int) == 3) = false := beq_eq_false_iff_ne.2 hr
        have HR : Hid (¬ (l[k].role = 3 ∧ l[k].proc = q)) := fun e => hr (by omega)
        clear hr
        go_wp2
        go_roundw
        case rel => exact ⟨k + 1, c, by go_num, rfl, by omega, by omega, by rw [← HN.out, HS.out, if_neg HR.out], hbel.alloc hbel.size _⟩
        case measure => simp [intOf]; omega
    · go_wp2
      go_ret
      exact ⟨ret_int (by rw [← HN.out, List.drop_of_length_le (by omega)]; rfl), hbel⟩

theorem nmAt_eq {ns : List Nm} {k : Nat} (h : k < ns.length) : nmAt ns k = ns[k] := by unfold nmAt; rw [List.getElem?_eq_getElem h]; rfl

set_option maxRecDepth 100000 in
set_option maxHeartbeats 1000000 in
theorem pn_wordOf (ao : Option Addr) (cap : Nat) (l : List Nm) (i : Int) (w : World) (hi : NmSl w ao l) :
    Calls Tryz.prog 148 #[.slice ao l.length cap, .int .i64 i] w fun e w' => e = .returned (.string (nwordF l i)) ∧ w' = w := by
  by_cases h : 0 ≤ i ∧ i < l.length
  · obtain ⟨k, rfl⟩ := Int.eq_ofNat_of_zero_le h.1
    have hlt : k < l.length := by omega
    obtain ⟨b, o, hb, hao, c1, c2, c3, c4⟩ := hi k hlt
    subst hao
    have HE : Hid (nwordF l (k : Int) = l[k].word) := by show _ = _; unfold nwordF; rw [if_pos h, Int.toNat_natCast, nmAt_eq hlt]
    clear h
    go_enter Tryz.func148, Tryz.ntmps148
    go_wp2
    go_ret
    exact ⟨ret_str HE.out.symm, rfl⟩
  · have HE : Hid (nwordF l i = ⟨#[]⟩) := by show _ = _; unfold nwordF; rw [if_neg h]
    by_cases h0 : i < 0
    · clear h
      go_enter Tryz.func148, Tryz.ntmps148
      go_wp2
      go_ret
      exact ⟨ret_str HE.out.symm, rfl⟩
    · have h1 : (l.length : Int) ≤ i := by omega
      clear h
      go_enter Tryz.func148, Tryz.ntmps148
      go_wp2
      go_ret
      exact ⟨ret_str HE.out.symm, rfl⟩

def set2 (w : World) (A : Nat) (x y : Value) : World := (w.setCell ⟨A, 0, none⟩ x).setCell ⟨A, 1, none⟩ y
theorem two_heap {w : World} {A : Nat} {a b x y : Value} {T : TypeId} (hA : w.heap[A]? = some (.cells #[a, b] T (0, 0))) : (set2 w A x y).heap[A]? = some (.cells #[x, y] T (0, 0)) := cts_set (cts_set hA 0 x) 1 y
theorem set2_below {W w : World} {A : Nat} (h : Below A W w) (x y : Value) : Below A W (set2 w A x y) := (h.setCell (p := ⟨A, 0, none⟩) (Nat.le_refl _) _).setCell (p := ⟨A, 1, none⟩) (Nat.le_refl _) _
theorem two_set {w : World} {A : Nat} {a b x y : Value} {T : TypeId} (hA : w.heap[A]? = some (.cells #[a, b] T (0, 0))) : (set2 w A x y).cell? ⟨A, 0, none⟩ = some x ∧ (set2 w A x y).cell? ⟨A, 1, none⟩ = some y := by
  have h := two_heap (x := x) (y := y) hA
  generalize set2 w A x y = v at *
  exact ⟨by simp [World.cell?, h], by simp [World.cell?, h]⟩
def truV (t : Tru) : Value := .agg #[.int .i64 t.own, .int .i64 t.num]
def truL (t : Tru) : List Value := [.int .i64 t.own, .int .i64 t.num]

set_option maxRecDepth 100000 in
set_option maxHeartbeats 2000000 in
theorem pn_truthOf (ao : Option Addr) (cap : Nat) (l : List Nm) (i : Int) (w : World) (hl : l.length ≤ 1000) (hi : NmSl w ao l) :
    Calls Tryz.prog 105 #[.slice ao l.length cap, .int .i64 i] w fun e w' => e = .returned (truV (truthF l i)) ∧ Below w.heap.size w w' := by
  have hA0 := heap_alloc_new w (.cells #[.int .i64 0, .int .i64 0] 193)
  have hb0 : Below w.heap.size w (w.alloc (.cells #[.int .i64 0, .int .i64 0] 193)) := (Below.refl _ _).alloc (Nat.le_refl _) _
  by_cases h : 0 ≤ i ∧ i < l.length
  · obtain ⟨k, rfl⟩ := Int.eq_ofNat_of_zero_le h.1
    have hlt : k < l.length := by omega
    obtain ⟨b, o, hb, hao, c1, c2, c3, c4⟩ := hi k hlt
    subst hao
    have HE : Hid (truthF l (k : Int) = if 0 ≤ numF l[k].word 0 l 0 then ⟨1, numF l[k].word 0 l 0⟩ else if 0 ≤ parF l[k].word l[k].proc l 0 then ⟨2, parF l[k].word l[k].proc l 0⟩ else ⟨0, 0⟩) := by show _ = _; unfold truthF; rw [if_pos h, Int.toNat_natCast, nmAt_eq hlt]
    clear h
    go_enter Tryz.func105, Tryz.ntmps105
    go_wp2_with fail
    refine (pn_numberOf _ cap l l[k].word 0 _ hl (hi.below hb0)).mono ?_
    rintro e w1 ⟨rfl, hb1⟩
    have hA1 := (hb1.block w.heap.size (by simp)).trans hA0
    have hbel1 := hb0.trans (hb1.mono hb0.size)
    have hz1 : w.heap.size < w1.heap.size := (Array.getElem?_eq_some_iff.1 hA1).1
    clear hA0 hb0 hb1
    have a0 : w1.cell? ⟨w.heap.size, 0, none⟩ = some (.int .i64 0) := by simp [World.cell?, hA1]
    have a1 : w1.cell? ⟨w.heap.size, 1, none⟩ = some (.int .i64 0) := by simp [World.cell?, hA1]
    have g0 : w1.frozen? ⟨w.heap.size, 0, none⟩ = false := by simp [World.frozen?, hA1]
    have g1 : w1.frozen? ⟨w.heap.size, 1, none⟩ = false := by simp [World.frozen?, hA1]
    generalize hN : numF l[k].word 0 l 0 = n at HE
    have HN := hide hN
    clear hN
    by_cases hn : 0 ≤ n
    · have HE2 : Hid (truthF l (k : Int) = ⟨1, n⟩) := by show _ = _; rw [HE.out, if_pos hn]
      have hr := two_set (x := .int .i64 1) (y := .int .i64 n) hA1
      have hset := set2_below hbel1 (.int .i64 1) (.int .i64 n)
      unfold set2 at hr hset
      have HR := hide hr
      have HS := hide hset
      clear HE hr hset
      go_wp2
      refine bodyPost_ret (v := truV (truthF l (k : Int))) ?_ rfl ⟨rfl, HS.out⟩
      rw [HE2.out]
      simp [results, Tryz.results105, go_sem, HR.out.1, HR.out.2, truV]
    · have hn2 : n < 0 := by omega
      have d1 := (hbel1.cell (p := ⟨b, o + k * 4, none⟩) hb).trans c1
      have d4 := (hbel1.cell (p := ⟨b, o + k * 4 + 3, none⟩) hb).trans c4
      have hb2 : b < w1.heap.size := Nat.lt_trans hb hz1
      have hi1 := hi.below hbel1
      go_wp2_with fail
      go_region_held (fun w' => w'.cell? ⟨b, o + k * 4, none⟩ = some (.string l[k].word) ∧ w'.cell? ⟨b, o + k * 4 + 3, none⟩ = some (.int .i64 l[k].proc) ∧ Below w1.heap.size w1 w') (first | exact ⟨d1, d4, (Below.refl _ _).drew⟩ | exact keep2 hb2 hb2 (by assumption) (by assumption)) (first | (go_at_call 146; refine (pn_paramOf _ cap l _ _ _ hl ?_).mono ?_; exact hi1.below (Below.refl _ _).drew; rintro e w3 ⟨rfl, hb3⟩))
      have hb13 : Below w1.heap.size w1 w3 := (Below.refl _ _).drew.trans hb3
      have hA3 := (hb13.block w.heap.size hz1).trans hA1
      have hbel3 := hbel1.trans (hb13.mono (Nat.le_of_lt hz1))
      clear a0 a1 g0 g1 hA1 hbel1 hb3 hb13 d1 d4 hi1 hb2
      have a0 : w3.cell? ⟨w.heap.size, 0, none⟩ = some (.int .i64 0) := by simp [World.cell?, hA3]
      have a1 : w3.cell? ⟨w.heap.size, 1, none⟩ = some (.int .i64 0) := by simp [World.cell?, hA3]
      have g0 : w3.frozen? ⟨w.heap.size, 0, none⟩ = false := by simp [World.frozen?, hA3]
      have g1 : w3.frozen? ⟨w.heap.size, 1, none⟩ = false := by simp [World.frozen?, hA3]
      generalize hM : parF l[k].word l[k].proc l 0 = m at HE
      have HM := hide hM
      clear hM
      by_cases hm : 0 ≤ m
      · have HE2 : Hid (truthF l (k : Int) = ⟨2, m⟩) := by show _ = _; rw [HE.out, if_neg (by omega), if_pos hm]
        have hr := two_set (x := .int .i64 2) (y := .int .i64 m) hA3
        have hset := set2_below hbel3 (.int .i64 2) (.int .i64 m)
        unfold set2 at hr hset
        have HR := hide hr
        have HS := hide hset
        clear HE hr hset
        go_wp2
        refine bodyPost_ret (v := truV (truthF l (k : Int))) ?_ rfl ⟨rfl, HS.out⟩
        rw [HE2.out]
        simp [results, Tryz.results105, go_sem, HR.out.1, HR.out.2, truV]
      · have HE2 : Hid (truthF l (k : Int) = ⟨0, 0⟩) := by show _ = _; rw [HE.out, if_neg (by omega), if_neg hm]
        have hm2 : m < 0 := by omega
        have hr := two_set (x := .int .i64 0) (y := .int .i64 0) hA3
        have hset := set2_below hbel3 (.int .i64 0) (.int .i64 0)
        unfold set2 at hr hset
        have HR := hide hr
        have HS := hide hset
        clear HE hr hset
        go_wp2
        refine bodyPost_ret (v := truV (truthF l (k : Int))) ?_ rfl ⟨rfl, HS.out⟩
        rw [HE2.out]
        simp [results, Tryz.results105, go_sem, HR.out.1, HR.out.2, truV]
  · have HE : Hid (truthF l i = ⟨0, 0⟩) := by show _ = _; unfold truthF; rw [if_neg h]
    by_cases h0 : i < 0
    · clear h
      go_enter Tryz.func105, Tryz.ntmps105
      go_wp2
      refine bodyPost_ret (v := truV (truthF l i)) ?_ rfl ⟨rfl, hb0⟩
      rw [HE.out]
      simp [results, Tryz.results105, go_sem, truV]
    · have h1 : (l.length : Int) ≤ i := by omega
      clear h
      go_enter Tryz.func105, Tryz.ntmps105
      go_wp2
      refine bodyPost_ret (v := truV (truthF l i)) ?_ rfl ⟨rfl, hb0⟩
      rw [HE.out]
      simp [results, Tryz.results105, go_sem, truV]

end Go.Proofs.YtmfcpbhdggonfaaGreatDoor

namespace RR
open Go Go.RowKit

structure Frm where
  line : Int
  p0 : Bool
  p1 : Bool
  p2 : Bool
structure Thr where
  count : Int
  f0 : Frm
  f1 : Frm
  f2 : Frm
  f3 : Frm
structure Cfg where
  s0 : Bool
  s1 : Bool
  s2 : Bool
  s3 : Bool
  h0 : Int
  h1 : Int
  h2 : Int
  t0 : Thr
  t1 : Thr
  t2 : Thr
def zFrm : Frm := ⟨0, false, false, false⟩
def zThr : Thr := ⟨0, zFrm, zFrm, zFrm, zFrm⟩
def zCfg : Cfg := ⟨false, false, false, false, 0, 0, 0, zThr, zThr, zThr⟩
def Frm.p (f : Frm) : Nat → Bool
  | 0 => f.p0
  | 1 => f.p1
  | _ => f.p2
def Frm.setP (f : Frm) (v : Bool) : Nat → Frm
  | 0 => { f with p0 := v }
  | 1 => { f with p1 := v }
  | _ => { f with p2 := v }
def Thr.f (t : Thr) : Nat → Frm
  | 0 => t.f0
  | 1 => t.f1
  | 2 => t.f2
  | _ => t.f3
def Thr.setF (t : Thr) (v : Frm) : Nat → Thr
  | 0 => { t with f0 := v }
  | 1 => { t with f1 := v }
  | 2 => { t with f2 := v }
  | _ => { t with f3 := v }
def Cfg.s (c : Cfg) : Nat → Bool
  | 0 => c.s0
  | 1 => c.s1
  | 2 => c.s2
  | _ => c.s3
def Cfg.setS (c : Cfg) (v : Bool) : Nat → Cfg
  | 0 => { c with s0 := v }
  | 1 => { c with s1 := v }
  | 2 => { c with s2 := v }
  | _ => { c with s3 := v }
def Cfg.h (c : Cfg) : Nat → Int
  | 0 => c.h0
  | 1 => c.h1
  | _ => c.h2
def Cfg.setH (c : Cfg) (v : Int) : Nat → Cfg
  | 0 => { c with h0 := v }
  | 1 => { c with h1 := v }
  | _ => { c with h2 := v }
def Cfg.t (c : Cfg) : Nat → Thr
  | 0 => c.t0
  | 1 => c.t1
  | _ => c.t2
def Cfg.setT (c : Cfg) (v : Thr) : Nat → Cfg
  | 0 => { c with t0 := v }
  | 1 => { c with t1 := v }
  | _ => { c with t2 := v }

def threadF (c : Cfg) (i : Int) : Thr := if 0 ≤ i ∧ i < 3 then c.t i.toNat else zThr
def frameF (t : Thr) (above : Int) : Option Frm :=
  if 0 ≤ wrap64 (wrap64 (t.count - 1) - above) ∧ wrap64 (wrap64 (t.count - 1) - above) < 4 then some (t.f (wrap64 (wrap64 (t.count - 1) - above)).toNat) else none
def pushF (t : Thr) (f : Frm) : Option Thr := if 0 ≤ t.count ∧ t.count < 4 then some { t.setF f t.count.toNat with count := t.count + 1 } else none
def popF (t : Thr) : Thr := if 1 ≤ t.count ∧ t.count ≤ 4 then { t.setF zFrm (t.count - 1).toNat with count := t.count - 1 } else t
def setLastF (t : Thr) (f : Frm) : Thr := if 1 ≤ t.count ∧ t.count ≤ 4 then t.setF f (t.count - 1).toNat else t

def endLine : PLine := ⟨9, 0, 0, 0, 0, 0, ⟨0, 0⟩, 0, 0, [], false, false, false, false, false⟩
def lineAt (p : Plan) (n : Int) : PLine := if 0 ≤ n ∧ n < p.lines.length then p.lines[n.toNat]?.getD endLine else endLine
def procAt (p : Plan) (n : Int) : PProc := if 0 ≤ n ∧ n < p.procs.length then p.procs[n.toNat]?.getD ⟨0, 0⟩ else ⟨0, 0⟩
def startF (p : Plan) : List Int → Nat → Cfg → Cfg
  | [], _, c => c
  | n :: r, i, c => startF p r (i + 1) (if i < 3 then c.setT ((pushF (c.t i) ⟨(procAt p n).entry, false, false, false⟩).getD (c.t i)) i else c)

structure Sight where
  s0 : Bool
  s1 : Bool
  s2 : Bool
  s3 : Bool
  p0 : Bool
  p1 : Bool
  p2 : Bool
  choice : Bool
def Sight.s (c : Sight) : Nat → Bool
  | 0 => c.s0
  | 1 => c.s1
  | 2 => c.s2
  | _ => c.s3
def Sight.p (f : Sight) : Nat → Bool
  | 0 => f.p0
  | 1 => f.p1
  | _ => f.p2
def valAt (v : List Bool) (i : Int) : Bool := if 0 ≤ i ∧ i < v.length then v[i.toNat]?.getD false else false
def seeF (s : Sight) (t : Tru) : Bool :=
  if t.own = 1 ∧ 0 ≤ t.num ∧ t.num < 4 then s.s t.num.toNat
  else if t.own = 2 ∧ 0 ≤ t.num ∧ t.num < 3 then s.p t.num.toNat
  else false
def signF (s : Sight) (n : PNd) (l r : Bool) : Bool :=
  if n.sign = 1 then true else if n.sign = 2 then s.choice else if n.sign = 3 then seeF s n.tr else if n.sign = 4 then !r else if n.sign = 5 then l && r else if n.sign = 6 then l || r else false
def workG (s : Sight) (nodes : List PNd) (first last : Int) : Nat → Int → List Bool → List Bool
  | 0, _, v => v
  | f + 1, i, v => if 0 ≤ i ∧ i ≤ last ∧ i < nodes.length then workG s nodes first last f (i + 1) (v ++ [signF s (pnAt nodes i.toNat) (valAt v (wrap64 ((pnAt nodes i.toNat).left - first))) (valAt v (wrap64 ((pnAt nodes i.toNat).right - first)))]) else v
def workF (s : Sight) (nodes : List PNd) (e : Int × Int) : Bool := valAt (workG s nodes e.1 e.2 (nodes.length + 1) e.1 []) (wrap64 (e.2 - e.1))
def workAllF (s : Sight) (nodes : List PNd) (l : List (Int × Int)) : List Bool := l.map (workF s nodes)

structure Wlk where
  c : Cfg
  f : Thr
  holder : Int
def goToF (w : Wlk) (line : Int) : Wlk :=
  match frameF w.f 0 with
  | some f => { w with f := setLastF w.f { f with line := line } }
  | none => w
def giveF (w : Wlk) (to : Tru) (v : Bool) : Wlk :=
  if to.num < 0 then w else
    let w1 : Wlk := if to.own = 1 ∧ to.num < 4 then { w with c := w.c.setS v to.num.toNat } else w
    match frameF w1.f 0 with
    | some f => if to.own = 2 ∧ to.num < 3 then { w1 with f := setLastF w1.f (f.setP v to.num.toNat) } else w1
    | none => w1
def giveBackF (p : Plan) (w : Wlk) (v : Bool) : Wlk :=
  let w1 : Wlk := { w with f := popF w.f }
  match frameF w1.f 0 with
  | some b => goToF (giveF w1 (lineAt p b.line).target v) (lineAt p b.line).next
  | none => w1
def passF (w : Wlk) (lock frm to : Int) : Option Wlk :=
  if 0 ≤ lock ∧ lock < 3 then (if w.c.h lock.toNat = frm then some { w with c := w.c.setH to lock.toNat } else none) else none
def parsF (v : List Bool) (n : Int) : Nat → Nat → Frm → Frm
  | 0, _, f => f
  | d + 1, i, f => if (i : Int) < n ∧ i < 3 then parsF v n d (i + 1) (f.setP (valAt v i) i) else f
def callF (p : Plan) (w : Wlk) (ln : PLine) (v : List Bool) : Option Wlk :=
  (pushF w.f (parsF v (procAt p ln.proc).params 4 0 ⟨(procAt p ln.proc).entry, false, false, false⟩)).map fun t => { w with f := t }
def actF (w : Wlk) (ln : PLine) (v : Bool) : Option Wlk :=
  if ln.kind = 0 then some (giveF w ln.target v)
  else if ln.kind = 4 then (if v then some w else none)
  else if ln.kind = 5 then passF w ln.lock 0 w.holder
  else if ln.kind = 6 then passF w ln.lock w.holder 0
  else some w
def walkF (p : Plan) (w : Wlk) (ln : PLine) (v : List Bool) : Option Wlk :=
  if ln.kind = 1 then callF p w ln v
  else if ln.kind = 7 ∨ ln.kind = 9 then some (giveBackF p w (valAt v 0))
  else if ln.kind = 2 ∨ ln.kind = 3 then some (goToF w (if valAt v 0 then ln.thn else ln.els))
  else (actF w ln (valAt v 0)).map fun w1 => goToF w1 ln.next
def stepF (p : Plan) (c : Cfg) (i : Int) (ch : Bool) : Option Cfg :=
  if 0 ≤ i ∧ i < 3 then
    match frameF (c.t i.toNat) 0 with
    | none => none
    | some f =>
      if ch && !(lineAt p f.line).choice then none
      else (walkF p ⟨c, c.t i.toNat, i + 1⟩ (lineAt p f.line) (workAllF ⟨c.s0, c.s1, c.s2, c.s3, f.p0, f.p1, f.p2, ch⟩ p.nodes (lineAt p f.line).vals)).map fun w => w.c.setT w.f i.toNat
  else none

def letterF (i : Int) (ch : Bool) : ByteArray :=
  if i = 0 then (if ch then ⟨#[65]⟩ else ⟨#[97]⟩) else if i = 1 then (if ch then ⟨#[66]⟩ else ⟨#[98]⟩) else if i = 2 then (if ch then ⟨#[67]⟩ else ⟨#[99]⟩) else ⟨#[]⟩
def letterIfF (p : Plan) (c : Cfg) (i : Int) (ch : Bool) : ByteArray := if (stepF p c i ch).isSome then letterF i ch else ⟨#[]⟩
def enabledF (p : Plan) (c : Cfg) : ByteArray :=
  (((((((⟨#[]⟩ : ByteArray) ++ letterIfF p c 0 false) ++ letterIfF p c 0 true) ++ letterIfF p c 1 false) ++ letterIfF p c 1 true) ++ letterIfF p c 2 false) ++ letterIfF p c 2 true)
def atAcqF (p : Plan) (t : Thr) : Bool :=
  match frameF t 0 with
  | some f => (lineAt p f.line).kind == 5
  | none => false
def deadF (p : Plan) (c : Cfg) : Bool := (atAcqF p c.t0 || atAcqF p c.t1 || atAcqF p c.t2) && (enabledF p c).size == 0

structure Tch where
  r0 : Bool
  r1 : Bool
  r2 : Bool
  r3 : Bool
  w0 : Bool
  w1 : Bool
  w2 : Bool
  w3 : Bool
def Tch.r (c : Tch) : Nat → Bool
  | 0 => c.r0
  | 1 => c.r1
  | 2 => c.r2
  | _ => c.r3
def Tch.w (c : Tch) : Nat → Bool
  | 0 => c.w0
  | 1 => c.w1
  | 2 => c.w2
  | _ => c.w3
def Tch.setW (c : Tch) : Nat → Tch
  | 0 => { c with w0 := true }
  | 1 => { c with w1 := true }
  | 2 => { c with w2 := true }
  | _ => { c with w3 := true }
def zTch : Tch := ⟨false, false, false, false, false, false, false, false⟩
def writtenF (p : Plan) (t : Thr) (ln : PLine) : Tru :=
  if ln.kind = 0 then ln.target
  else match frameF t 1 with
    | some b => if ln.kind = 7 ∨ ln.kind = 9 then (lineAt p b.line).target else ⟨0, 0⟩
    | none => ⟨0, 0⟩
def touchF (p : Plan) (t : Thr) : Tch :=
  match frameF t 0 with
  | none => zTch
  | some f =>
    let ln := lineAt p f.line
    let a : Tch := ⟨ln.r0, ln.r1, ln.r2, ln.r3, false, false, false, false⟩
    if (writtenF p t ln).own = 1 ∧ 0 ≤ (writtenF p t ln).num ∧ (writtenF p t ln).num < 4 then a.setW (writtenF p t ln).num.toNat else a
def spoilsF (a b : Tch) : Bool := (a.w0 && (b.w0 || b.r0)) || (a.w1 && (b.w1 || b.r1)) || (a.w2 && (b.w2 || b.r2)) || (a.w3 && (b.w3 || b.r3))
def clashT (p : Plan) (a b : Thr) : Bool := spoilsF (touchF p a) (touchF p b) || spoilsF (touchF p b) (touchF p a)
def raceF (p : Plan) (c : Cfg) : Bool := clashT p c.t1 c.t0 || (clashT p c.t2 c.t0 || clashT p c.t2 c.t1)

def bitF (b : Bool) : ByteArray := if b then ⟨#[49]⟩ else ⟨#[48]⟩
def holderF (h : Int) : ByteArray := if h = 0 then ⟨#[45]⟩ else letterF (wrap64 (h - 1)) false
def bitsF (g : Nat → Bool) (n : Int) (m : Nat) : Nat → Nat → ByteArray → ByteArray
  | 0, _, s => s
  | d + 1, i, s => if (i : Int) < n ∧ i < m then bitsF g n m d (i + 1) (s ++ bitF (g i)) else s
def locksF (g : Nat → Int) (n : Int) : Nat → Nat → ByteArray → ByteArray
  | 0, _, s => s
  | d + 1, i, s => if (i : Int) < n ∧ i < 3 then locksF g n d (i + 1) (s ++ holderF (g i)) else s
def itoaF (n : Nat) : ByteArray := ⟨(Lib.decDigits n).toArray⟩
def frameTextF (p : Plan) (f : Frm) : ByteArray := bitsF f.p (lineAt p f.line).params 3 4 0 (itoaF (lineAt p f.line).at_ ++ ⟨#[58]⟩)
def framesG (p : Plan) (t : Thr) : Nat → Nat → ByteArray → ByteArray
  | 0, _, s => s
  | d + 1, i, s => if (i : Int) < t.count ∧ i < 4 then framesG p t d (i + 1) ((if 0 < i then s ++ ⟨#[44]⟩ else s) ++ frameTextF p (t.f i)) else s
def framesTextF (p : Plan) (t : Thr) : ByteArray := framesG p t 5 0 ⟨#[]⟩
def threadsG (p : Plan) (c : Cfg) : Nat → Nat → ByteArray → ByteArray
  | 0, _, s => s
  | d + 1, i, s => threadsG p c d (i + 1) ((s ++ ⟨#[47]⟩) ++ framesTextF p (threadF c i))
def textF (p : Plan) (c : Cfg) : ByteArray :=
  threadsG p c p.threads.length 0 (locksF c.h p.locks 4 0 (bitsF c.s p.shared 4 5 0 ⟨#[]⟩ ++ ⟨#[47]⟩))

end RR

namespace RR
open Go Go.RowKit

def readB (c : UInt8) : Option (Int × Bool) :=
  if 97 ≤ c.toNat ∧ c.toNat ≤ 99 then some ((c.toNat : Int) - 97, false)
  else if 65 ≤ c.toNat ∧ c.toNat ≤ 67 then some ((c.toNat : Int) - 65, true)
  else none
def byteB (s : ByteArray) (k : Nat) : UInt8 := if h : k < s.size then s[k] else 0
def followF (p : Plan) (s : ByteArray) : Nat → Nat → Cfg → Except Nat Cfg
  | 0, _, c => .ok c
  | d + 1, k, c =>
    match readB (byteB s k) with
    | none => .error k
    | some t =>
      match stepF p c t.1 t.2 with
      | none => .error k
      | some c1 => followF p s d (k + 1) c1
def start1 (p : Plan) : Cfg := startF p p.threads 0 zCfg
structure Vw where
  text : ByteArray
  enabled : ByteArray
  race : Bool
  dead : Bool
def zVw : Vw := ⟨⟨#[]⟩, ⟨#[]⟩, false, false⟩
def viewF (p : Plan) (c : Cfg) : Vw := ⟨textF p c, enabledF p c, raceF p c, deadF p c⟩
def playP (p : Plan) (s : ByteArray) : Vw × Int × Int :=
  if 200 < s.size then (zVw, 1, 0) else
    match followF p s s.size 0 (start1 p) with
    | .error k => (zVw, 8, k)
    | .ok c => (viewF p c, 0, 0)

def frmEq (a b : Frm) : Bool := decide (a.line = b.line) && (a.p0 == b.p0) && (a.p1 == b.p1) && (a.p2 == b.p2)
def thrEq (a b : Thr) : Bool := decide (a.count = b.count) && frmEq a.f0 b.f0 && frmEq a.f1 b.f1 && frmEq a.f2 b.f2 && frmEq a.f3 b.f3
def cfgEq (a b : Cfg) : Bool :=
  (a.s0 == b.s0) && (a.s1 == b.s1) && (a.s2 == b.s2) && (a.s3 == b.s3) && decide (a.h0 = b.h0) && decide (a.h1 = b.h1) && decide (a.h2 = b.h2)
    && thrEq a.t0 b.t0 && thrEq a.t1 b.t1 && thrEq a.t2 b.t2
structure Pt where
  ctx : Int
  last : Int
  cfg : Cfg
def ptEq (a b : Pt) : Bool := decide (a.ctx = b.ctx) && decide (a.last = b.last) && cfgEq a.cfg b.cfg
structure Sg where
  pt : Pt
  by_ : ByteArray
structure Rp where
  race : Bool
  dead : Bool
  raceBy : ByteArray
  deadBy : ByteArray
  whole : Bool
  points : Nat
def zRp : Rp := ⟨false, false, ⟨#[]⟩, ⟨#[]⟩, false, 0⟩
structure Sr where
  seen : List Pt
  fresh : List Sg
  rep : Rp
def seeP (p : Plan) (s : Sr) (x : Pt) (b : ByteArray) : Sr :=
  let r1 : Rp := { s.rep with points := s.seen.length + 1 }
  let r2 : Rp := if !r1.race && raceF p x.cfg then { r1 with race := true, raceBy := b } else r1
  let r3 : Rp := if !r2.dead && deadF p x.cfg then { r2 with dead := true, deadBy := b } else r2
  ⟨s.seen ++ [x], s.fresh ++ [⟨x, b⟩], r3⟩
def tryF (p : Plan) (most : Int) (s : Sr) (f : Sg) (i : Int) (ch : Bool) : Sr :=
  let n : Int := if i ≠ f.pt.last then f.pt.ctx + 1 else f.pt.ctx
  if most < n then s else
    match stepF p f.pt.cfg i ch with
    | none => s
    | some c => if s.seen.any (ptEq · ⟨n, i, c⟩) then s else seeP p s ⟨n, i, c⟩ (f.by_ ++ letterF i ch)
def behindP (p : Plan) (most : Int) (s : Sr) (f : Sg) : Sr :=
  tryF p most (tryF p most (tryF p most (tryF p most (tryF p most (tryF p most s f 0 false) f 0 true) f 1 false) f 1 true) f 2 false) f 2 true
def roundG (p : Plan) (most : Int) : List Sg → Sr → Option Sr
  | [], s => some { s with rep := { s.rep with whole := s.fresh.isEmpty } }
  | f :: r, s => if 600 < (behindP p most s f).seen.length then none else roundG p most r (behindP p most s f)
def roundF (p : Plan) (most : Int) (s : Sr) : Option Sr := roundG p most s.fresh { s with fresh := [] }
def endedF (s : Sr) : Bool := (s.rep.race && s.rep.dead) || s.rep.whole
def roundsF (p : Plan) (most : Int) : Nat → Sr → Option Sr
  | 0, s => some s
  | n + 1, s => if endedF s then some s else (roundF p most s).bind (roundsF p most n)
def beginF (p : Plan) : Sr := seeP p ⟨[], [], zRp⟩ ⟨0, -1, start1 p⟩ ⟨#[]⟩
def searchP (p : Plan) (most steps : Int) : Rp × Int :=
  if most < 1 ∨ 6 < most ∨ steps < 0 ∨ 60 < steps then (zRp, 7) else
    match roundsF p most steps.toNat (beginF p) with
    | none => (zRp, 9)
    | some s => (s.rep, 0)

end RR

namespace Go.Proofs.YtmfcpbhdggonfaaGreatDoor
open Go.RowKit RR

def ndP (n : PNd) : List Value := [.int .i64 n.sign, .int .i64 n.tr.own, .int .i64 n.tr.num, .int .i64 n.left, .int .i64 n.right]
def prP (p : PProc) : List Value := [.int .i64 p.params, .int .i64 p.entry]
def thP (n : Int) : List Value := [.int .i64 n]
def lnL (a : PLine) (v : Value) : List Value := [.int .i64 a.kind, .int .i64 a.at_, .int .i64 a.params, .int .i64 a.next, .int .i64 a.thn, .int .i64 a.els, .int .i64 a.target.own, .int .i64 a.target.num, .int .i64 a.lock, .int .i64 a.proc, v, .bool a.choice, .bool a.r0, .bool a.r1, .bool a.r2, .bool a.r3]
def lnP (x : PLine × Value) : List Value := lnL x.1 x.2
def LnSl (w : World) (ao : Option Addr) (ls : List PLine) : Prop := ∃ l : List (PLine × Value), l.map Prod.fst = ls ∧ Flat w ao (l.flatMap lnP) ∧ ∀ x ∈ l, ExSl w x.2 x.1.vals
theorem LnSl.below {w w' : World} {ao : Option Addr} {l : List PLine} (h : LnSl w ao l) (hb : Below w.heap.size w w') : LnSl w' ao l := by
  obtain ⟨m, h1, h2, h3⟩ := h
  exact ⟨m, h1, h2.below hb, fun x hx => (h3 x hx).below hb⟩
def PlanAt (w : World) (p : Plan) (a b : Option Addr) (c d : Option Addr) : Prop :=
  Flat w a (p.threads.flatMap thP) ∧ Flat w b (p.procs.flatMap prP) ∧ LnSl w c p.lines ∧ Flat w d (p.nodes.flatMap ndP)
theorem PlanAt.below {w w' : World} {p : Plan} {a b c d : Option Addr} (h : PlanAt w p a b c d) (hb : Below w.heap.size w w') : PlanAt w' p a b c d :=
  ⟨h.1.below hb, h.2.1.below hb, h.2.2.1.below hb, h.2.2.2.below hb⟩
def frmL (f : Frm) : List Value := [.int .i64 f.line, .bool f.p0, .bool f.p1, .bool f.p2]
def thrL (t : Thr) : List Value := .int .i64 t.count :: (frmL t.f0 ++ frmL t.f1 ++ frmL t.f2 ++ frmL t.f3)
def cfgL (c : Cfg) : List Value := [.bool c.s0, .bool c.s1, .bool c.s2, .bool c.s3, .int .i64 c.h0, .int .i64 c.h1, .int .i64 c.h2] ++ thrL c.t0 ++ thrL c.t1 ++ thrL c.t2

end Go.Proofs.YtmfcpbhdggonfaaGreatDoor
