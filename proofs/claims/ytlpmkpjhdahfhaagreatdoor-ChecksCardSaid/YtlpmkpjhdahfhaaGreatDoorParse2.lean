/- The program's parser, its recursive functions, with so much fuel. Plain functions. No Go here. -/
import Derived.Test.YtlpmkpjhdahfhaaGreatDoorParse
import Derived.WalkKit
namespace RR
open Go Go.RowKit

/-- Entering a bracket or brace. -/
def enterP (L : List Tk) (σ : PSt) (t : ByteArray) : PSt := if 6 ≤ σ.depth then σ.fail else { σ.take L t with depth := wrap64 ((σ.take L t).depth + 1) }
def leaveP (L : List Tk) (σ : PSt) (t : ByteArray) : PSt := { σ.take L t with depth := wrap64 ((σ.take L t).depth - 1) }
def takeEndP (L : List Tk) (σ : PSt) : PSt := if σ.next < L.length then σ.fail else σ

/-- As many ! as there are. -/
def notsP (L : List Tk) : Nat → PSt → Option PSt
  | 0, _ => none
  | f + 1, σ => if σ.sees L ⟨#[33]⟩ then notsP L f (σ.take L ⟨#[33]⟩) else some σ

mutual
def exprP (L : List Tk) : Nat → PSt → Option PSt
  | 0, _ => none
  | f + 1, σ => (termP L f σ).bind (orP L f)
def orP (L : List Tk) : Nat → PSt → Option PSt
  | 0, _ => none
  | f + 1, σ => if σ.sees L ⟨#[124]⟩ then (termP L f σ.step).bind (orP L f) else some σ
def termP (L : List Tk) : Nat → PSt → Option PSt
  | 0, _ => none
  | f + 1, σ => (factorP L f σ).bind (andP L f)
def andP (L : List Tk) : Nat → PSt → Option PSt
  | 0, _ => none
  | f + 1, σ => if σ.sees L ⟨#[38]⟩ then (factorP L f σ.step).bind (andP L f) else some σ
def factorP (L : List Tk) : Nat → PSt → Option PSt
  | 0, _ => none
  | f + 1, σ => (notsP L f σ).bind fun σ1 =>
      if (σ1.ahead L 0).t = ⟨#[40]⟩ then bracketedP L f σ1
      else if (σ1.ahead L 0).t = ⟨#[116, 114, 117, 101]⟩ ∨ (σ1.ahead L 0).t = ⟨#[102, 97, 108, 115, 101]⟩ ∨ (σ1.ahead L 0).t = ⟨#[63]⟩ then some (σ1.take L (σ1.ahead L 0).t)
      else some (σ1.takeName L 4)
def bracketedP (L : List Tk) : Nat → PSt → Option PSt
  | 0, _ => none
  | f + 1, σ => (exprP L f (enterP L σ ⟨#[40]⟩)).map fun σ1 => leaveP L σ1 ⟨#[41]⟩
end

/-- Names with commas between them. -/
def moreP (L : List Tk) (role : Nat) : Nat → PSt → Option PSt
  | 0, _ => none
  | f + 1, σ => if σ.sees L ⟨#[44]⟩ then moreP L role f (σ.step.takeName L role) else some σ

/-- EXPRs with commas between them, and how many. -/
def valuesP (L : List Tk) : Nat → PSt → Nat → Option (PSt × Nat)
  | 0, _, _ => none
  | f + 1, σ, n => if σ.sees L ⟨#[44]⟩ then (exprP L f σ.step).bind fun σ1 => valuesP L f σ1 (n + 1) else some (σ, n)

end RR
