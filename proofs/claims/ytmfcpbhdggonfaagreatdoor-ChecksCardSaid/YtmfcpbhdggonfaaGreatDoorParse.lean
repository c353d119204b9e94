/- The program's parser: its state, its small steps. Plain functions. No Go here. -/
import Derived.Test.YtmfcpbhdggonfaaGreatDoorNames
import Derived.WalkKit
namespace RR

/-- The parser's state. -/
structure PSt where
  next : Nat
  depth : Int
  proc : Int
  failed : Bool
  names : List Nm
  calls : List Cl

def PSt.fail (σ : PSt) : PSt := { σ with failed := true }
def PSt.step (σ : PSt) : PSt := { σ with next := σ.next + 1 }

/-- The token n places on, or one without text. -/
def PSt.ahead (L : List Tk) (σ : PSt) (n : Nat) : Tk := if h : σ.failed = false ∧ σ.next + n < L.length then L[σ.next + n] else ⟨⟨#[]⟩, 0⟩

def PSt.sees (L : List Tk) (σ : PSt) (t : ByteArray) : Bool := decide ((σ.ahead L 0).t = t)

def PSt.take (L : List Tk) (σ : PSt) (t : ByteArray) : PSt := if σ.sees L t then σ.step else σ.fail

def PSt.seesCall (L : List Tk) (σ : PSt) : Bool := isNameB (σ.ahead L 0).t && decide ((σ.ahead L 1).t = ⟨#[40]⟩)

def PSt.takeName (L : List Tk) (σ : PSt) (role : Nat) : PSt :=
  if isNameB (σ.ahead L 0).t then { σ with next := σ.next + 1, names := σ.names ++ [⟨(σ.ahead L 0).t, (σ.ahead L 0).p, role, σ.proc⟩] } else σ.fail

theorem ahead_in {L : List Tk} {σ : PSt} {n : Nat} (h : σ.failed = false) (h2 : σ.next + n < L.length) : σ.ahead L n = L[σ.next + n] := by unfold PSt.ahead; rw [dif_pos ⟨h, h2⟩]
theorem ahead_failed {L : List Tk} {σ : PSt} {n : Nat} (h : σ.failed = true) : σ.ahead L n = ⟨⟨#[]⟩, 0⟩ := by unfold PSt.ahead; rw [dif_neg (by rw [h]; simp)]
theorem ahead_out {L : List Tk} {σ : PSt} {n : Nat} (h2 : ¬ σ.next + n < L.length) : σ.ahead L n = ⟨⟨#[]⟩, 0⟩ := by unfold PSt.ahead; rw [dif_neg (fun h => h2 h.2)]

/-- There are no more names and calls than tokens were taken; behind a fault perhaps one call more. -/
def Inv (σ : PSt) : Prop := σ.names.length ≤ σ.next ∧ σ.calls.length ≤ σ.next + (if σ.failed then 1 else 0)
theorem inv_fail {σ : PSt} (h : Inv σ) : Inv σ.fail := by
  refine ⟨h.1, ?_⟩
  have := h.2
  show σ.calls.length ≤ σ.next + 1
  split at this <;> omega
theorem inv_step {σ : PSt} (h : Inv σ) : Inv σ.step := by
  refine ⟨Nat.le_succ_of_le h.1, ?_⟩
  have := h.2
  show σ.calls.length ≤ σ.next + 1 + (if σ.failed then 1 else 0)
  omega
theorem inv_name {σ : PSt} (h : Inv σ) (n : Nm) : Inv { σ with next := σ.next + 1, names := σ.names ++ [n] } := by
  refine ⟨?_, ?_⟩
  · show (σ.names ++ [n]).length ≤ σ.next + 1
    rw [List.length_append]; exact Nat.succ_le_succ h.1
  · have := h.2
    show σ.calls.length ≤ σ.next + 1 + (if σ.failed then 1 else 0)
    omega
theorem Inv.small {σ : PSt} (h : Inv σ) : σ.names.length ≤ σ.next ∧ σ.calls.length ≤ σ.next + 1 := by
  refine ⟨h.1, ?_⟩
  have := h.2
  split at this <;> omega

/-- With a text, what is seen is there. -/
theorem sees_lt {L : List Tk} {σ : PSt} {t : ByteArray} (ht : t ≠ ⟨#[]⟩) (h : σ.sees L t = true) : σ.next < L.length ∧ σ.failed = false := by
  unfold PSt.sees at h
  rw [decide_eq_true_iff] at h
  cases hf : σ.failed
  · by_cases h2 : σ.next + 0 < L.length
    · exact ⟨h2, rfl⟩
    · rw [ahead_out h2] at h; exact absurd h.symm ht
  · rw [ahead_failed hf] at h; exact absurd h.symm ht
theorem name_lt {L : List Tk} {σ : PSt} (h : isNameB (σ.ahead L 0).t = true) : σ.next < L.length ∧ σ.failed = false := by
  have he : isNameB (⟨#[]⟩ : ByteArray) = false := isName_empty rfl
  cases hf : σ.failed
  · by_cases h2 : σ.next + 0 < L.length
    · exact ⟨h2, rfl⟩
    · rw [ahead_out h2, he] at h; cases h
  · rw [ahead_failed hf, he] at h; cases h

end RR

/- The program's parser, its recursive functions, with so much fuel. Plain functions. No Go here. -/
namespace RR
open Go Go.RowKit

/-- Entering a bracket or brace. -/
def enterP (L : List Tk) (σ : PSt) (t : ByteArray) : PSt := if 6 ≤ σ.depth then σ.fail else { σ.take L t with depth := wrap64 ((σ.take L t).depth + 1) }
def leaveP (L : List Tk) (σ : PSt) (t : ByteArray) : PSt := { σ.take L t with depth := wrap64 ((σ.take L t).depth - 1) }
def takeEndP (L : List Tk) (σ : PSt) : PSt := if σ.next < L.length then σ.fail else σ

/-- As many ! as there are. -/
def notsP (L : List Tk) : Nat → PSt → Option PSt
  | 0, _ => none
  | f + 1, σ => if σ.sees L ⟨#[33]⟩ then notsP L f (σ.take L ⟨#[33]⟩) else some σ

/-- The functions that read an EXPR: 0 EXPR, 1 what stands behind its first TERM, 2 TERM, 3 what stands behind its first FACTOR, 4 FACTOR, else brackets. -/
def exprsP (L : List Tk) : Nat → Nat → PSt → Option PSt
  | 0, _, _ => none
  | f + 1, 0, σ => (exprsP L f 2 σ).bind (exprsP L f 1)
  | f + 1, 1, σ => if σ.sees L ⟨#[124]⟩ then (exprsP L f 2 σ.step).bind (exprsP L f 1) else some σ
  | f + 1, 2, σ => (exprsP L f 4 σ).bind (exprsP L f 3)
  | f + 1, 3, σ => if σ.sees L ⟨#[38]⟩ then (exprsP L f 4 σ.step).bind (exprsP L f 3) else some σ
  | f + 1, 4, σ => (notsP L f σ).bind fun σ1 =>
      if (σ1.ahead L 0).t = ⟨#[40]⟩ then exprsP L f 5 σ1
      else if (σ1.ahead L 0).t = ⟨#[116, 114, 117, 101]⟩ ∨ (σ1.ahead L 0).t = ⟨#[102, 97, 108, 115, 101]⟩ ∨ (σ1.ahead L 0).t = ⟨#[63]⟩ then some (σ1.take L (σ1.ahead L 0).t)
      else some (σ1.takeName L 4)
  | f + 1, _, σ => (exprsP L f 0 (enterP L σ ⟨#[40]⟩)).map fun σ1 => leaveP L σ1 ⟨#[41]⟩
def exprP (L : List Tk) (f : Nat) (σ : PSt) : Option PSt := exprsP L f 0 σ
def orP (L : List Tk) (f : Nat) (σ : PSt) : Option PSt := exprsP L f 1 σ
def termP (L : List Tk) (f : Nat) (σ : PSt) : Option PSt := exprsP L f 2 σ
def andP (L : List Tk) (f : Nat) (σ : PSt) : Option PSt := exprsP L f 3 σ
def factorP (L : List Tk) (f : Nat) (σ : PSt) : Option PSt := exprsP L f 4 σ
def bracketedP (L : List Tk) (f : Nat) (σ : PSt) : Option PSt := exprsP L f 5 σ
theorem exprP_zero (L : List Tk) (σ : PSt) : exprP L 0 σ = none := rfl
theorem orP_zero (L : List Tk) (σ : PSt) : orP L 0 σ = none := rfl
theorem termP_zero (L : List Tk) (σ : PSt) : termP L 0 σ = none := rfl
theorem andP_zero (L : List Tk) (σ : PSt) : andP L 0 σ = none := rfl
theorem factorP_zero (L : List Tk) (σ : PSt) : factorP L 0 σ = none := rfl
theorem bracketedP_zero (L : List Tk) (σ : PSt) : bracketedP L 0 σ = none := rfl
theorem exprP_succ (L : List Tk) (f : Nat) (σ : PSt) : exprP L (f + 1) σ = (termP L f σ).bind (orP L f) := rfl
theorem orP_succ (L : List Tk) (f : Nat) (σ : PSt) : orP L (f + 1) σ = if σ.sees L ⟨#[124]⟩ then (termP L f σ.step).bind (orP L f) else some σ := rfl
theorem termP_succ (L : List Tk) (f : Nat) (σ : PSt) : termP L (f + 1) σ = (factorP L f σ).bind (andP L f) := rfl
theorem andP_succ (L : List Tk) (f : Nat) (σ : PSt) : andP L (f + 1) σ = if σ.sees L ⟨#[38]⟩ then (factorP L f σ.step).bind (andP L f) else some σ := rfl
theorem factorP_succ (L : List Tk) (f : Nat) (σ : PSt) : factorP L (f + 1) σ = (notsP L f σ).bind fun σ1 =>
      if (σ1.ahead L 0).t = ⟨#[40]⟩ then bracketedP L f σ1
      else if (σ1.ahead L 0).t = ⟨#[116, 114, 117, 101]⟩ ∨ (σ1.ahead L 0).t = ⟨#[102, 97, 108, 115, 101]⟩ ∨ (σ1.ahead L 0).t = ⟨#[63]⟩ then some (σ1.take L (σ1.ahead L 0).t)
      else some (σ1.takeName L 4) := rfl
theorem bracketedP_succ (L : List Tk) (f : Nat) (σ : PSt) : bracketedP L (f + 1) σ = (exprP L f (enterP L σ ⟨#[40]⟩)).map fun σ1 => leaveP L σ1 ⟨#[41]⟩ := rfl

/-- Names with commas between them. -/
def moreP (L : List Tk) (role : Nat) : Nat → PSt → Option PSt
  | 0, _ => none
  | f + 1, σ => if σ.sees L ⟨#[44]⟩ then moreP L role f (σ.step.takeName L role) else some σ

/-- EXPRs with commas between them, and how many. -/
def valuesP (L : List Tk) : Nat → PSt → Nat → Option (PSt × Nat)
  | 0, _, _ => none
  | f + 1, σ, n => if σ.sees L ⟨#[44]⟩ then (exprP L f σ.step).bind fun σ1 => valuesP L f σ1 (n + 1) else some (σ, n)

end RR

/- The program's parser: what expressions leave as it was; values, calls. Plain functions. No Go here. -/
namespace RR
open Go Go.RowKit

/-- Behind it there are no fewer tokens taken; the calls and the procedure's number are as they were. -/
def Good (σ σ' : PSt) : Prop := σ'.calls = σ.calls ∧ σ.next ≤ σ'.next ∧ σ'.proc = σ.proc
theorem Good.refl (σ : PSt) : Good σ σ := ⟨rfl, Nat.le_refl _, rfl⟩
theorem Good.trans {a b c : PSt} (h : Good a b) (k : Good b c) : Good a c := ⟨k.1.trans h.1, Nat.le_trans h.2.1 k.2.1, k.2.2.trans h.2.2⟩
theorem good_fail (σ : PSt) : Good σ σ.fail := ⟨rfl, Nat.le_refl _, rfl⟩
theorem good_step (σ : PSt) : Good σ σ.step := ⟨rfl, Nat.le_succ _, rfl⟩
theorem good_take (L : List Tk) (σ : PSt) (t : ByteArray) : Good σ (σ.take L t) := by
  unfold PSt.take; split
  · exact good_step σ
  · exact good_fail σ
theorem good_takeName (L : List Tk) (σ : PSt) (r : Nat) : Good σ (σ.takeName L r) := by
  unfold PSt.takeName; split
  · exact ⟨rfl, Nat.le_succ _, rfl⟩
  · exact good_fail σ
theorem good_enter (L : List Tk) (σ : PSt) (t : ByteArray) : Good σ (enterP L σ t) := by
  unfold enterP; split
  · exact good_fail σ
  · have := good_take L σ t
    exact ⟨this.1, this.2.1, this.2.2⟩
theorem good_leave (L : List Tk) (σ : PSt) (t : ByteArray) : Good σ (leaveP L σ t) := by
  have := good_take L σ t
  exact ⟨this.1, this.2.1, this.2.2⟩

theorem good_nots (L : List Tk) : ∀ (f : Nat) (σ σ' : PSt), notsP L f σ = some σ' → Good σ σ' := by
  intro f
  induction f with
  | zero => intro σ σ' h; rw [notsP] at h; cases h
  | succ f ih =>
    intro σ σ' h
    rw [notsP] at h
    split at h
    · exact (good_take L σ _).trans (ih _ _ h)
    · rw [← Option.some.inj h]; exact Good.refl _

theorem bindS {α β : Type} {o : Option α} {g : α → Option β} {b : β} (h : o.bind g = some b) : ∃ a, o = some a ∧ g a = some b := by
  cases o with
  | none => cases h
  | some a => exact ⟨a, rfl, h⟩

theorem good_exprs (L : List Tk) : ∀ f : Nat, (∀ σ σ', exprP L f σ = some σ' → Good σ σ') ∧ (∀ σ σ', orP L f σ = some σ' → Good σ σ') ∧ (∀ σ σ', termP L f σ = some σ' → Good σ σ') ∧ (∀ σ σ', andP L f σ = some σ' → Good σ σ') ∧ (∀ σ σ', factorP L f σ = some σ' → Good σ σ') ∧ (∀ σ σ', bracketedP L f σ = some σ' → Good σ σ') := by
  intro f
  induction f with
  | zero =>
    refine ⟨?_, ?_, ?_, ?_, ?_, ?_⟩ <;> intro σ σ' h
    · rw [exprP_zero] at h; cases h
    · rw [orP_zero] at h; cases h
    · rw [termP_zero] at h; cases h
    · rw [andP_zero] at h; cases h
    · rw [factorP_zero] at h; cases h
    · rw [bracketedP_zero] at h; cases h
  | succ f ih =>
    obtain ⟨i1, i2, i3, i4, i5, i6⟩ := ih
    refine ⟨?_, ?_, ?_, ?_, ?_, ?_⟩ <;> intro σ σ' h
    · rw [exprP_succ] at h
      obtain ⟨a, h1, h2⟩ := bindS h
      exact (i3 _ _ h1).trans (i2 _ _ h2)
    · rw [orP_succ] at h
      split at h
      · obtain ⟨a, h1, h2⟩ := bindS h
        exact (good_step σ).trans ((i3 _ _ h1).trans (i2 _ _ h2))
      · rw [← Option.some.inj h]; exact Good.refl _
    · rw [termP_succ] at h
      obtain ⟨a, h1, h2⟩ := bindS h
      exact (i5 _ _ h1).trans (i4 _ _ h2)
    · rw [andP_succ] at h
      split at h
      · obtain ⟨a, h1, h2⟩ := bindS h
        exact (good_step σ).trans ((i5 _ _ h1).trans (i4 _ _ h2))
      · rw [← Option.some.inj h]; exact Good.refl _
    · rw [factorP_succ] at h
      obtain ⟨a, h1, h2⟩ := bindS h
      refine (good_nots L f _ _ h1).trans ?_
      split at h2
      · exact i6 _ _ h2
      · split at h2
        · rw [← Option.some.inj h2]; exact good_take L a _
        · rw [← Option.some.inj h2]; exact good_takeName L a 4
    · rw [bracketedP_succ] at h
      obtain ⟨a, h1, h2⟩ := Option.map_eq_some_iff.1 h
      rw [← h2]
      exact ((good_enter L σ _).trans (i1 _ _ h1)).trans (good_leave L a _)

theorem good_expr {L : List Tk} {f : Nat} {σ σ' : PSt} (h : exprP L f σ = some σ') : Good σ σ' := (good_exprs L f).1 σ σ' h

theorem good_values (L : List Tk) : ∀ (f : Nat) (σ : PSt) (n : Nat) (r : PSt × Nat), valuesP L f σ n = some r → n ≤ σ.next + 1 → Good σ r.1 ∧ r.2 ≤ r.1.next + 1 := by
  intro f
  induction f with
  | zero => intro σ n r h; rw [valuesP] at h; cases h
  | succ f ih =>
    intro σ n r h hn
    rw [valuesP] at h
    split at h
    · obtain ⟨a, h1, h2⟩ := bindS h
      have g := (good_step σ).trans (good_expr h1)
      have := ih a (n + 1) r h2 (by have := (good_expr h1).2.1; have e : σ.step.next = σ.next + 1 := rfl; omega)
      exact ⟨g.trans this.1, this.2⟩
    · rw [← Option.some.inj h]; exact ⟨Good.refl _, hn⟩

/-- A call. -/
def callP (L : List Tk) (f : Nat) (σ : PSt) : Option PSt :=
  (if (enterP L (σ.takeName L 6) ⟨#[40]⟩).sees L ⟨#[41]⟩ then some (enterP L (σ.takeName L 6) ⟨#[40]⟩, 0)
   else (exprP L f (enterP L (σ.takeName L 6) ⟨#[40]⟩)).bind fun τ => valuesP L f τ 1).map fun r =>
    { leaveP L r.1 ⟨#[41]⟩ with calls := (leaveP L r.1 ⟨#[41]⟩).calls ++ [⟨(σ.ahead L 0).t, (σ.ahead L 0).p, r.2⟩] }

end RR

/- The program's parser: statements, procedures, the program. Plain functions. No Go here. -/
namespace RR
open Go Go.RowKit

def assignedP (L : List Tk) (f : Nat) (σ : PSt) : Option PSt := if σ.seesCall L then callP L f σ else exprP L f σ
def assignOrCallP (L : List Tk) (f : Nat) (σ : PSt) : Option PSt :=
  (if σ.seesCall L then callP L f σ else assignedP L f ((σ.takeName L 4).take L ⟨#[61]⟩)).map fun τ => τ.take L ⟨#[59]⟩
def giveBackP (L : List Tk) (f : Nat) (σ : PSt) : Option PSt :=
  (if (σ.take L ⟨#[114, 101, 116, 117, 114, 110]⟩).sees L ⟨#[59]⟩ then some (σ.take L ⟨#[114, 101, 116, 117, 114, 110]⟩) else exprP L f (σ.take L ⟨#[114, 101, 116, 117, 114, 110]⟩)).map fun τ => τ.take L ⟨#[59]⟩

/-- The functions that read statements: 0 a block, 1 statements, 2 a statement, else an if. -/
def blocksP (L : List Tk) : Nat → Nat → PSt → Option PSt
  | 0, _, _ => none
  | f + 1, 0, σ => (blocksP L f 1 (enterP L σ ⟨#[123]⟩)).map fun τ => leaveP L τ ⟨#[125]⟩
  | f + 1, 1, σ => if σ.failed = false ∧ σ.sees L ⟨#[125]⟩ = false then (blocksP L f 2 σ).bind (blocksP L f 1) else some σ
  | f + 1, 2, σ =>
    if (σ.ahead L 0).t = ⟨#[105, 102]⟩ then blocksP L f 3 σ
    else if (σ.ahead L 0).t = ⟨#[119, 104, 105, 108, 101]⟩ then (bracketedP L f (σ.take L ⟨#[119, 104, 105, 108, 101]⟩)).bind (blocksP L f 0)
    else if (σ.ahead L 0).t = ⟨#[97, 115, 115, 117, 109, 101]⟩ then (exprP L f (σ.take L ⟨#[97, 115, 115, 117, 109, 101]⟩)).map fun τ => τ.take L ⟨#[59]⟩
    else if (σ.ahead L 0).t = ⟨#[97, 99, 113, 117, 105, 114, 101]⟩ ∨ (σ.ahead L 0).t = ⟨#[114, 101, 108, 101, 97, 115, 101]⟩ then some (((σ.take L (σ.ahead L 0).t).takeName L 5).take L ⟨#[59]⟩)
    else if (σ.ahead L 0).t = ⟨#[114, 101, 116, 117, 114, 110]⟩ then giveBackP L f σ
    else if (σ.ahead L 0).t = ⟨#[115, 107, 105, 112]⟩ then some ((σ.take L ⟨#[115, 107, 105, 112]⟩).take L ⟨#[59]⟩)
    else assignOrCallP L f σ
  | f + 1, _, σ => (bracketedP L f (σ.take L ⟨#[105, 102]⟩)).bind fun a => (blocksP L f 0 a).bind fun b => if b.sees L ⟨#[101, 108, 115, 101]⟩ then blocksP L f 0 b.step else some b
def blockP (L : List Tk) (f : Nat) (σ : PSt) : Option PSt := blocksP L f 0 σ
def stmtsP (L : List Tk) (f : Nat) (σ : PSt) : Option PSt := blocksP L f 1 σ
def statementP (L : List Tk) (f : Nat) (σ : PSt) : Option PSt := blocksP L f 2 σ
def branchP (L : List Tk) (f : Nat) (σ : PSt) : Option PSt := blocksP L f 3 σ
theorem blockP_zero (L : List Tk) (σ : PSt) : blockP L 0 σ = none := rfl
theorem stmtsP_zero (L : List Tk) (σ : PSt) : stmtsP L 0 σ = none := rfl
theorem statementP_zero (L : List Tk) (σ : PSt) : statementP L 0 σ = none := rfl
theorem branchP_zero (L : List Tk) (σ : PSt) : branchP L 0 σ = none := rfl
theorem blockP_succ (L : List Tk) (f : Nat) (σ : PSt) : blockP L (f + 1) σ = (stmtsP L f (enterP L σ ⟨#[123]⟩)).map fun τ => leaveP L τ ⟨#[125]⟩ := rfl
theorem stmtsP_succ (L : List Tk) (f : Nat) (σ : PSt) : stmtsP L (f + 1) σ = if σ.failed = false ∧ σ.sees L ⟨#[125]⟩ = false then (statementP L f σ).bind (stmtsP L f) else some σ := rfl
theorem statementP_succ (L : List Tk) (f : Nat) (σ : PSt) : statementP L (f + 1) σ =
    if (σ.ahead L 0).t = ⟨#[105, 102]⟩ then branchP L f σ
    else if (σ.ahead L 0).t = ⟨#[119, 104, 105, 108, 101]⟩ then (bracketedP L f (σ.take L ⟨#[119, 104, 105, 108, 101]⟩)).bind (blockP L f)
    else if (σ.ahead L 0).t = ⟨#[97, 115, 115, 117, 109, 101]⟩ then (exprP L f (σ.take L ⟨#[97, 115, 115, 117, 109, 101]⟩)).map fun τ => τ.take L ⟨#[59]⟩
    else if (σ.ahead L 0).t = ⟨#[97, 99, 113, 117, 105, 114, 101]⟩ ∨ (σ.ahead L 0).t = ⟨#[114, 101, 108, 101, 97, 115, 101]⟩ then some (((σ.take L (σ.ahead L 0).t).takeName L 5).take L ⟨#[59]⟩)
    else if (σ.ahead L 0).t = ⟨#[114, 101, 116, 117, 114, 110]⟩ then giveBackP L f σ
    else if (σ.ahead L 0).t = ⟨#[115, 107, 105, 112]⟩ then some ((σ.take L ⟨#[115, 107, 105, 112]⟩).take L ⟨#[59]⟩)
    else assignOrCallP L f σ := rfl
theorem branchP_succ (L : List Tk) (f : Nat) (σ : PSt) : branchP L (f + 1) σ = (bracketedP L f (σ.take L ⟨#[105, 102]⟩)).bind fun a => (blockP L f a).bind fun b => if b.sees L ⟨#[101, 108, 115, 101]⟩ then blockP L f b.step else some b := rfl

def procedureP (L : List Tk) (f : Nat) (σ : PSt) : Option PSt :=
  let a := σ.take L ⟨#[112, 114, 111, 99]⟩
  let d := enterP L (({ a with proc := wrap64 (a.proc + 1) } : PSt).takeName L 2) ⟨#[40]⟩
  (if d.sees L ⟨#[41]⟩ then some d else moreP L 3 f (d.takeName L 3)).bind fun e => blockP L f (leaveP L e ⟨#[41]⟩)
def procsP (L : List Tk) : Nat → PSt → Option PSt
  | 0, _ => none
  | f + 1, σ => if σ.sees L ⟨#[112, 114, 111, 99]⟩ then (procedureP L f σ).bind (procsP L f) else some σ
def listP (L : List Tk) (f : Nat) (t : ByteArray) (role : Nat) (σ : PSt) : Option PSt :=
  if σ.sees L t then (moreP L role f (σ.step.takeName L role)).map fun τ => τ.take L ⟨#[59]⟩ else some σ
def programP (L : List Tk) (f : Nat) (σ : PSt) : Option PSt :=
  (listP L f ⟨#[115, 104, 97, 114, 101, 100]⟩ 0 σ).bind fun a => (listP L f ⟨#[108, 111, 99, 107, 115]⟩ 1 a).bind fun b => (procedureP L f b).bind fun c => (procsP L f c).bind fun d =>
    (moreP L 7 f ((d.take L ⟨#[116, 104, 114, 101, 97, 100, 115]⟩).takeName L 7)).map fun e => takeEndP L (e.take L ⟨#[59]⟩)

end RR
