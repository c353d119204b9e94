/- The program's parser with what it lists beside names and calls: statements and the nodes of EXPRs. Plain functions. No Go here. -/
import Derived.Test.YtmfcpbhdggonfaaGreatDoorParse
namespace RR
open Go Go.RowKit

/-- A node of an EXPR: 0 false, 1 true, 2 ?, 3 a name, 4 !, 5 &, 6 |. -/
structure Nd where
  sign : Nat
  name : Int
  left : Int
  right : Int
/-- Where a statement stands. -/
structure Blk where
  proc : Int
  owner : Int
  els : Bool
/-- A statement: 0 assign, 1 call, 2 if, 3 while, 4 assume, 5 acquire, 6 release, 7 return, 8 skip, 9 END. -/
structure Stm where
  kind : Nat
  at_ : Nat
  blk : Blk
  target : Int
  name : Int
  vals : List (Int × Int)
structure QSt where
  p : PSt
  sts : List Stm
  nds : List Nd

def QSt.setp (σ : QSt) (q : PSt) : QSt := { σ with p := q }
def QSt.node (σ : QSt) (n : Nd) : QSt := { σ with nds := σ.nds ++ [n] }
def QSt.add (σ : QSt) (s : Stm) : QSt := { σ with sts := σ.sts ++ [s] }
/-- The number of the name that is taken. -/
def nameIx (L : List Tk) (σ : PSt) : Int := if isNameB (σ.ahead L 0).t then σ.names.length else -1

def notsQ (L : List Tk) : Nat → QSt → Nat → Option (QSt × Nat)
  | 0, _, _ => none
  | f + 1, σ, n => if σ.p.sees L ⟨#[33]⟩ then notsQ L f (σ.setp σ.p.step) (n + 1) else some (σ, n)
def addNots : Nat → QSt → Int → QSt × Int
  | 0, σ, w => (σ, w)
  | n + 1, σ, w => addNots n (σ.node ⟨4, -1, 0, w⟩) σ.nds.length

/-- A constant, with its sign. -/
def constQ (L : List Tk) (σ : QSt) (t : ByteArray) (sign : Nat) : QSt × Int := ((σ.setp (σ.p.take L t)).node ⟨sign, -1, 0, 0⟩, σ.nds.length)
def plainQ (L : List Tk) (br : QSt → Option (QSt × Int)) (σ : QSt) : Option (QSt × Int) :=
  if (σ.p.ahead L 0).t = ⟨#[40]⟩ then br σ
  else if (σ.p.ahead L 0).t = ⟨#[116, 114, 117, 101]⟩ then some (constQ L σ ⟨#[116, 114, 117, 101]⟩ 1)
  else if (σ.p.ahead L 0).t = ⟨#[102, 97, 108, 115, 101]⟩ then some (constQ L σ ⟨#[102, 97, 108, 115, 101]⟩ 0)
  else if (σ.p.ahead L 0).t = ⟨#[63]⟩ then some (constQ L σ ⟨#[63]⟩ 2)
  else some ((σ.setp (σ.p.takeName L 4)).node ⟨3, nameIx L σ.p, 0, 0⟩, σ.nds.length)

/-- The functions that read an EXPR: 0 EXPR, 1 what stands behind its first TERM, 2 TERM, 3 what stands behind its first FACTOR, 4 FACTOR, else brackets. -/
def exprsQ (L : List Tk) : Nat → Nat → QSt → Int → Option (QSt × Int)
  | 0, _, _, _ => none
  | f + 1, 0, σ, _ => (exprsQ L f 2 σ 0).bind fun r => exprsQ L f 1 r.1 r.2
  | f + 1, 1, σ, w => if σ.p.sees L ⟨#[124]⟩ then (exprsQ L f 2 (σ.setp σ.p.step) 0).bind fun r => exprsQ L f 1 (r.1.node ⟨6, -1, w, r.2⟩) r.1.nds.length else some (σ, w)
  | f + 1, 2, σ, _ => (exprsQ L f 4 σ 0).bind fun r => exprsQ L f 3 r.1 r.2
  | f + 1, 3, σ, w => if σ.p.sees L ⟨#[38]⟩ then (exprsQ L f 4 (σ.setp σ.p.step) 0).bind fun r => exprsQ L f 3 (r.1.node ⟨5, -1, w, r.2⟩) r.1.nds.length else some (σ, w)
  | f + 1, 4, σ, _ => (notsQ L f σ 0).bind fun r => (plainQ L (fun τ => exprsQ L f 5 τ 0) r.1).map fun q => addNots r.2 q.1 q.2
  | f + 1, _, σ, _ => (exprsQ L f 0 (σ.setp (enterP L σ.p ⟨#[40]⟩)) 0).map fun r => (r.1.setp (leaveP L r.1.p ⟨#[41]⟩), r.2)
def exprQ (L : List Tk) (f : Nat) (σ : QSt) : Option (QSt × Int) := exprsQ L f 0 σ 0
def orQ (L : List Tk) (f : Nat) (σ : QSt) (w : Int) : Option (QSt × Int) := exprsQ L f 1 σ w
def termQ (L : List Tk) (f : Nat) (σ : QSt) : Option (QSt × Int) := exprsQ L f 2 σ 0
def andQ (L : List Tk) (f : Nat) (σ : QSt) (w : Int) : Option (QSt × Int) := exprsQ L f 3 σ w
def factorQ (L : List Tk) (f : Nat) (σ : QSt) : Option (QSt × Int) := exprsQ L f 4 σ 0
def bracketedQ (L : List Tk) (f : Nat) (σ : QSt) : Option (QSt × Int) := exprsQ L f 5 σ 0
theorem exprQ_zero (L : List Tk) (σ : QSt) : exprQ L 0 σ = none := rfl
theorem orQ_zero (L : List Tk) (σ : QSt) (w : Int) : orQ L 0 σ w = none := rfl
theorem termQ_zero (L : List Tk) (σ : QSt) : termQ L 0 σ = none := rfl
theorem andQ_zero (L : List Tk) (σ : QSt) (w : Int) : andQ L 0 σ w = none := rfl
theorem factorQ_zero (L : List Tk) (σ : QSt) : factorQ L 0 σ = none := rfl
theorem bracketedQ_zero (L : List Tk) (σ : QSt) : bracketedQ L 0 σ = none := rfl
theorem exprQ_succ (L : List Tk) (f : Nat) (σ : QSt) : exprQ L (f + 1) σ = (termQ L f σ).bind fun r => orQ L f r.1 r.2 := rfl
theorem orQ_succ (L : List Tk) (f : Nat) (σ : QSt) (w : Int) : orQ L (f + 1) σ w = if σ.p.sees L ⟨#[124]⟩ then (termQ L f (σ.setp σ.p.step)).bind fun r => orQ L f (r.1.node ⟨6, -1, w, r.2⟩) r.1.nds.length else some (σ, w) := rfl
theorem termQ_succ (L : List Tk) (f : Nat) (σ : QSt) : termQ L (f + 1) σ = (factorQ L f σ).bind fun r => andQ L f r.1 r.2 := rfl
theorem andQ_succ (L : List Tk) (f : Nat) (σ : QSt) (w : Int) : andQ L (f + 1) σ w = if σ.p.sees L ⟨#[38]⟩ then (factorQ L f (σ.setp σ.p.step)).bind fun r => andQ L f (r.1.node ⟨5, -1, w, r.2⟩) r.1.nds.length else some (σ, w) := rfl
theorem factorQ_succ (L : List Tk) (f : Nat) (σ : QSt) : factorQ L (f + 1) σ = (notsQ L f σ 0).bind fun r => (plainQ L (bracketedQ L f) r.1).map fun q => addNots r.2 q.1 q.2 := rfl
theorem bracketedQ_succ (L : List Tk) (f : Nat) (σ : QSt) : bracketedQ L (f + 1) σ = (exprQ L f (σ.setp (enterP L σ.p ⟨#[40]⟩))).map fun r => (r.1.setp (leaveP L r.1.p ⟨#[41]⟩), r.2) := rfl

/-- An EXPR that is worked out in a step from the statement. -/
def valueQ (L : List Tk) (f : Nat) (σ : QSt) (v : List (Int × Int)) : Option (QSt × List (Int × Int)) := (exprQ L f σ).map fun r => (r.1, v ++ [((σ.nds.length : Int), r.2)])
def valuesQ (L : List Tk) : Nat → QSt → List (Int × Int) → Option (QSt × List (Int × Int))
  | 0, _, _ => none
  | f + 1, σ, v => if σ.p.sees L ⟨#[44]⟩ then (valueQ L f (σ.setp σ.p.step) v).bind fun r => valuesQ L f r.1 r.2 else some (σ, v)
def condQ (L : List Tk) : Nat → QSt → List (Int × Int) → Option (QSt × List (Int × Int))
  | 0, _, _ => none
  | f + 1, σ, v => (valueQ L f (σ.setp (enterP L σ.p ⟨#[40]⟩)) v).map fun r => (r.1.setp (leaveP L r.1.p ⟨#[41]⟩), r.2)

def callQ (L : List Tk) (f : Nat) (σ : QSt) (s : Stm) : Option (QSt × Stm) :=
  (if (enterP L (σ.p.takeName L 6) ⟨#[40]⟩).sees L ⟨#[41]⟩ then some (σ.setp (enterP L (σ.p.takeName L 6) ⟨#[40]⟩), s.vals)
   else (valueQ L f (σ.setp (enterP L (σ.p.takeName L 6) ⟨#[40]⟩)) s.vals).bind fun r => valuesQ L f r.1 r.2).map fun r =>
    (r.1.setp { leaveP L r.1.p ⟨#[41]⟩ with calls := (leaveP L r.1.p ⟨#[41]⟩).calls ++ [⟨(σ.p.ahead L 0).t, (σ.p.ahead L 0).p, r.2.length⟩] }, { s with name := nameIx L σ.p, vals := r.2 })
def assignedQ (L : List Tk) (f : Nat) (σ : QSt) (s : Stm) : Option (QSt × Stm) :=
  if σ.p.seesCall L then callQ L f σ s else (valueQ L f σ s.vals).map fun r => (r.1, { s with kind := 0, vals := r.2 })
def aocQ (L : List Tk) (f : Nat) (σ : QSt) (s : Stm) : Option QSt :=
  (if σ.p.seesCall L then callQ L f σ { s with kind := 1 } else assignedQ L f (σ.setp ((σ.p.takeName L 4).take L ⟨#[61]⟩)) { s with kind := 1, target := nameIx L σ.p }).map fun r => (r.1.setp (r.1.p.take L ⟨#[59]⟩)).add r.2
def giveBackQ (L : List Tk) (f : Nat) (σ : QSt) (s : Stm) : Option QSt :=
  (if (σ.p.take L ⟨#[114, 101, 116, 117, 114, 110]⟩).sees L ⟨#[59]⟩ then some (σ.setp (σ.p.take L ⟨#[114, 101, 116, 117, 114, 110]⟩), s.vals) else valueQ L f (σ.setp (σ.p.take L ⟨#[114, 101, 116, 117, 114, 110]⟩)) s.vals).map fun r =>
    (r.1.setp (r.1.p.take L ⟨#[59]⟩)).add { s with kind := 7, vals := r.2 }
def assumeQ (L : List Tk) (f : Nat) (σ : QSt) (s : Stm) : Option QSt :=
  (valueQ L f (σ.setp (σ.p.take L ⟨#[97, 115, 115, 117, 109, 101]⟩)) s.vals).map fun r => (r.1.setp (r.1.p.take L ⟨#[59]⟩)).add { s with kind := 4, vals := r.2 }
def lockUseQ (L : List Tk) (σ : QSt) (s : Stm) (t : ByteArray) : QSt :=
  (σ.setp (((σ.p.take L t).takeName L 5).take L ⟨#[59]⟩)).add { s with name := nameIx L (σ.p.take L t) }
def skipQ (L : List Tk) (σ : QSt) (s : Stm) : QSt := (σ.setp ((σ.p.take L ⟨#[115, 107, 105, 112]⟩).take L ⟨#[59]⟩)).add { s with kind := 8 }

def newStm (L : List Tk) (σ : QSt) (b : Blk) : Stm := ⟨0, (σ.p.ahead L 0).p, b, -1, -1, []⟩

/-- The functions that read statements: 0 a block, 1 statements, 2 a statement, else an if. -/
def blocksQ (L : List Tk) : Nat → Nat → QSt → Blk → Option (QSt × Nat)
  | 0, _, _, _ => none
  | f + 1, 0, σ, b => (blocksQ L f 1 (σ.setp (enterP L σ.p ⟨#[123]⟩)) b).map fun τ => (τ.1.setp (leaveP L τ.1.p ⟨#[125]⟩), (τ.1.p.ahead L 0).p)
  | f + 1, 1, σ, b => if σ.p.failed = false ∧ σ.p.sees L ⟨#[125]⟩ = false then (blocksQ L f 2 σ b).bind fun τ => blocksQ L f 1 τ.1 b else some (σ, 0)
  | f + 1, 2, σ, b =>
    if (σ.p.ahead L 0).t = ⟨#[105, 102]⟩ then blocksQ L f 3 σ b
    else if (σ.p.ahead L 0).t = ⟨#[119, 104, 105, 108, 101]⟩ then (condQ L f (σ.setp (σ.p.take L ⟨#[119, 104, 105, 108, 101]⟩)) []).bind fun a => (blocksQ L f 0 (a.1.add { newStm L σ b with kind := 3, vals := a.2 }) ⟨b.proc, a.1.sts.length, false⟩).map fun c => (c.1, 0)
    else if (σ.p.ahead L 0).t = ⟨#[97, 115, 115, 117, 109, 101]⟩ then (assumeQ L f σ (newStm L σ b)).map fun c => (c, 0)
    else if (σ.p.ahead L 0).t = ⟨#[97, 99, 113, 117, 105, 114, 101]⟩ then some (lockUseQ L σ { newStm L σ b with kind := 5 } (σ.p.ahead L 0).t, 0)
    else if (σ.p.ahead L 0).t = ⟨#[114, 101, 108, 101, 97, 115, 101]⟩ then some (lockUseQ L σ { newStm L σ b with kind := 6 } (σ.p.ahead L 0).t, 0)
    else if (σ.p.ahead L 0).t = ⟨#[114, 101, 116, 117, 114, 110]⟩ then (giveBackQ L f σ (newStm L σ b)).map fun c => (c, 0)
    else if (σ.p.ahead L 0).t = ⟨#[115, 107, 105, 112]⟩ then some (skipQ L σ (newStm L σ b), 0)
    else (aocQ L f σ (newStm L σ b)).map fun c => (c, 0)
  | f + 1, _, σ, b => (condQ L f (σ.setp (σ.p.take L ⟨#[105, 102]⟩)) []).bind fun a =>
      (blocksQ L f 0 (a.1.add { newStm L σ b with kind := 2, vals := a.2 }) ⟨b.proc, a.1.sts.length, false⟩).bind fun c =>
        if c.1.p.sees L ⟨#[101, 108, 115, 101]⟩ then (blocksQ L f 0 (c.1.setp c.1.p.step) ⟨b.proc, a.1.sts.length, true⟩).map fun d => (d.1, 0) else some (c.1, 0)
def blockQ (L : List Tk) (f : Nat) (σ : QSt) (b : Blk) : Option (QSt × Nat) := blocksQ L f 0 σ b
def stmtsQ (L : List Tk) (f : Nat) (σ : QSt) (b : Blk) : Option (QSt × Nat) := blocksQ L f 1 σ b
def statementQ (L : List Tk) (f : Nat) (σ : QSt) (b : Blk) : Option (QSt × Nat) := blocksQ L f 2 σ b
def branchQ (L : List Tk) (f : Nat) (σ : QSt) (b : Blk) : Option (QSt × Nat) := blocksQ L f 3 σ b
def loopQ (L : List Tk) (f : Nat) (σ : QSt) (b : Blk) : Option (QSt × Nat) := (condQ L f (σ.setp (σ.p.take L ⟨#[119, 104, 105, 108, 101]⟩)) []).bind fun a => (blockQ L f (a.1.add { newStm L σ b with kind := 3, vals := a.2 }) ⟨b.proc, a.1.sts.length, false⟩).map fun c => (c.1, 0)
theorem blockQ_zero (L : List Tk) (σ : QSt) (b : Blk) : blockQ L 0 σ b = none := rfl
theorem stmtsQ_zero (L : List Tk) (σ : QSt) (b : Blk) : stmtsQ L 0 σ b = none := rfl
theorem statementQ_zero (L : List Tk) (σ : QSt) (b : Blk) : statementQ L 0 σ b = none := rfl
theorem branchQ_zero (L : List Tk) (σ : QSt) (b : Blk) : branchQ L 0 σ b = none := rfl
theorem blockQ_succ (L : List Tk) (f : Nat) (σ : QSt) (b : Blk) : blockQ L (f + 1) σ b = (stmtsQ L f (σ.setp (enterP L σ.p ⟨#[123]⟩)) b).map fun τ => (τ.1.setp (leaveP L τ.1.p ⟨#[125]⟩), (τ.1.p.ahead L 0).p) := rfl
theorem stmtsQ_succ (L : List Tk) (f : Nat) (σ : QSt) (b : Blk) : stmtsQ L (f + 1) σ b = if σ.p.failed = false ∧ σ.p.sees L ⟨#[125]⟩ = false then (statementQ L f σ b).bind fun τ => stmtsQ L f τ.1 b else some (σ, 0) := rfl
theorem statementQ_succ (L : List Tk) (f : Nat) (σ : QSt) (b : Blk) : statementQ L (f + 1) σ b =
    if (σ.p.ahead L 0).t = ⟨#[105, 102]⟩ then branchQ L f σ b
    else if (σ.p.ahead L 0).t = ⟨#[119, 104, 105, 108, 101]⟩ then loopQ L f σ b
    else if (σ.p.ahead L 0).t = ⟨#[97, 115, 115, 117, 109, 101]⟩ then (assumeQ L f σ (newStm L σ b)).map fun c => (c, 0)
    else if (σ.p.ahead L 0).t = ⟨#[97, 99, 113, 117, 105, 114, 101]⟩ then some (lockUseQ L σ { newStm L σ b with kind := 5 } (σ.p.ahead L 0).t, 0)
    else if (σ.p.ahead L 0).t = ⟨#[114, 101, 108, 101, 97, 115, 101]⟩ then some (lockUseQ L σ { newStm L σ b with kind := 6 } (σ.p.ahead L 0).t, 0)
    else if (σ.p.ahead L 0).t = ⟨#[114, 101, 116, 117, 114, 110]⟩ then (giveBackQ L f σ (newStm L σ b)).map fun c => (c, 0)
    else if (σ.p.ahead L 0).t = ⟨#[115, 107, 105, 112]⟩ then some (skipQ L σ (newStm L σ b), 0)
    else (aocQ L f σ (newStm L σ b)).map fun c => (c, 0) := rfl
theorem branchQ_succ (L : List Tk) (f : Nat) (σ : QSt) (b : Blk) : branchQ L (f + 1) σ b = (condQ L f (σ.setp (σ.p.take L ⟨#[105, 102]⟩)) []).bind fun a =>
      (blockQ L f (a.1.add { newStm L σ b with kind := 2, vals := a.2 }) ⟨b.proc, a.1.sts.length, false⟩).bind fun c =>
        if c.1.p.sees L ⟨#[101, 108, 115, 101]⟩ then (blockQ L f (c.1.setp c.1.p.step) ⟨b.proc, a.1.sts.length, true⟩).map fun d => (d.1, 0) else some (c.1, 0) := rfl

def procedureQ (L : List Tk) (f : Nat) (σ : QSt) : Option QSt :=
  let a := σ.p.take L ⟨#[112, 114, 111, 99]⟩
  let d := enterP L (({ a with proc := wrap64 (a.proc + 1) } : PSt).takeName L 2) ⟨#[40]⟩
  (if d.sees L ⟨#[41]⟩ then some d else moreP L 3 f (d.takeName L 3)).bind fun e =>
    (blockQ L f (σ.setp (leaveP L e ⟨#[41]⟩)) ⟨(leaveP L e ⟨#[41]⟩).proc, -1, false⟩).map fun r => r.1.add ⟨9, r.2, ⟨(leaveP L e ⟨#[41]⟩).proc, -1, false⟩, -1, -1, []⟩
def procsQ (L : List Tk) : Nat → QSt → Option QSt
  | 0, _ => none
  | f + 1, σ => if σ.p.sees L ⟨#[112, 114, 111, 99]⟩ then (procedureQ L f σ).bind (procsQ L f) else some σ
def programQ (L : List Tk) (f : Nat) (σ : QSt) : Option QSt :=
  (listP L f ⟨#[115, 104, 97, 114, 101, 100]⟩ 0 σ.p).bind fun a => (listP L f ⟨#[108, 111, 99, 107, 115]⟩ 1 a).bind fun b => (procedureQ L f (σ.setp b)).bind fun c => (procsQ L f c).bind fun d =>
    (moreP L 7 f ((d.p.take L ⟨#[116, 104, 114, 101, 97, 100, 115]⟩).takeName L 7)).map fun e => d.setp (takeEndP L (e.take L ⟨#[59]⟩))

end RR
