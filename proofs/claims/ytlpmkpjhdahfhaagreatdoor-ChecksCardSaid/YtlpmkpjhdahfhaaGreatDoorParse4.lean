/- The program's parser: statements, procedures, the program. Plain functions. No Go here. -/
import Derived.Test.YtlpmkpjhdahfhaaGreatDoorParse3
namespace RR
open Go Go.RowKit

def assignedP (L : List Tk) (f : Nat) (σ : PSt) : Option PSt := if σ.seesCall L then callP L f σ else exprP L f σ
def assignOrCallP (L : List Tk) (f : Nat) (σ : PSt) : Option PSt :=
  (if σ.seesCall L then callP L f σ else assignedP L f ((σ.takeName L 4).take L ⟨#[61]⟩)).map fun τ => τ.take L ⟨#[59]⟩
def giveBackP (L : List Tk) (f : Nat) (σ : PSt) : Option PSt :=
  (if (σ.take L ⟨#[114, 101, 116, 117, 114, 110]⟩).sees L ⟨#[59]⟩ then some (σ.take L ⟨#[114, 101, 116, 117, 114, 110]⟩) else exprP L f (σ.take L ⟨#[114, 101, 116, 117, 114, 110]⟩)).map fun τ => τ.take L ⟨#[59]⟩

mutual
def blockP (L : List Tk) : Nat → PSt → Option PSt
  | 0, _ => none
  | f + 1, σ => (stmtsP L f (enterP L σ ⟨#[123]⟩)).map fun τ => leaveP L τ ⟨#[125]⟩
def stmtsP (L : List Tk) : Nat → PSt → Option PSt
  | 0, _ => none
  | f + 1, σ => if σ.failed = false ∧ σ.sees L ⟨#[125]⟩ = false then (statementP L f σ).bind (stmtsP L f) else some σ
def statementP (L : List Tk) : Nat → PSt → Option PSt
  | 0, _ => none
  | f + 1, σ =>
    if (σ.ahead L 0).t = ⟨#[105, 102]⟩ then branchP L f σ
    else if (σ.ahead L 0).t = ⟨#[119, 104, 105, 108, 101]⟩ then (bracketedP L f (σ.take L ⟨#[119, 104, 105, 108, 101]⟩)).bind (blockP L f)
    else if (σ.ahead L 0).t = ⟨#[97, 115, 115, 117, 109, 101]⟩ then (exprP L f (σ.take L ⟨#[97, 115, 115, 117, 109, 101]⟩)).map fun τ => τ.take L ⟨#[59]⟩
    else if (σ.ahead L 0).t = ⟨#[97, 99, 113, 117, 105, 114, 101]⟩ ∨ (σ.ahead L 0).t = ⟨#[114, 101, 108, 101, 97, 115, 101]⟩ then some (((σ.take L (σ.ahead L 0).t).takeName L 5).take L ⟨#[59]⟩)
    else if (σ.ahead L 0).t = ⟨#[114, 101, 116, 117, 114, 110]⟩ then giveBackP L f σ
    else if (σ.ahead L 0).t = ⟨#[115, 107, 105, 112]⟩ then some ((σ.take L ⟨#[115, 107, 105, 112]⟩).take L ⟨#[59]⟩)
    else assignOrCallP L f σ
def branchP (L : List Tk) : Nat → PSt → Option PSt
  | 0, _ => none
  | f + 1, σ => (bracketedP L f (σ.take L ⟨#[105, 102]⟩)).bind fun a => (blockP L f a).bind fun b => if b.sees L ⟨#[101, 108, 115, 101]⟩ then blockP L f b.step else some b
end

def procedureP (L : List Tk) (f : Nat) (σ : PSt) : Option PSt :=
  let a := σ.take L ⟨#[112, 114, 111, 99]⟩
  let d := enterP L (({ a with proc := wrap64 (a.proc + 1) } : PSt).takeName L 2) ⟨#[40]⟩
  (if d.sees L ⟨#[41]⟩ then some d else moreP L 3 f (d.takeName L 3)).bind fun e => blockP L f (leaveP L e ⟨#[41]⟩)
def procsP (L : List Tk) : Nat → PSt → Option PSt
  | 0, _ => none
  | f + 1, σ => if σ.sees L ⟨#[112, 114, 111, 99]⟩ then (procedureP L f σ).bind (procsP L f) else some σ
def listP (L : List Tk) (f : Nat) (t : ByteArray) (role : Nat) (σ : PSt) : Option PSt :=
  if σ.sees L t then (moreP L role f (σ.step.takeName L role)).map fun τ => τ.take L ⟨#[59]⟩ else some σ
def programP (L : List Tk) (f : Nat) (σ : PSt) : Option PSt :=
  (listP L f ⟨#[115, 104, 97, 114, 101, 100]⟩ 0 σ).bind fun a => (listP L f ⟨#[108, 111, 99, 107, 115]⟩ 1 a).bind fun b => (procedureP L f b).bind fun c => (procsP L f c).bind fun d =>
    (moreP L 7 f ((d.take L ⟨#[116, 104, 114, 101, 97, 100, 115]⟩).takeName L 7)).map fun e => takeEndP L (e.take L ⟨#[59]⟩)

end RR
