/- The grammar's symbols and what they become: plain functions. No Go here. -/
import Derived.Test.YtmfcpbhdggonfaaGreatDoorPure
namespace RR

/-- A symbol that is no token, by its number. -/
abbrev NT := Nat
abbrev NT.nNames : NT := 0
abbrev NT.nMore : NT := 1
abbrev NT.nProcs : NT := 2
abbrev NT.nProc : NT := 3
abbrev NT.nParams : NT := 4
abbrev NT.nBlock : NT := 5
abbrev NT.nStmts : NT := 6
abbrev NT.nValues : NT := 7
abbrev NT.nValue : NT := 8
abbrev NT.nShared : NT := 9
abbrev NT.nLocks : NT := 10
abbrev NT.nExpr : NT := 11
abbrev NT.nOr : NT := 12
abbrev NT.nTerm : NT := 13
abbrev NT.nAnd : NT := 14
abbrev NT.nFactor : NT := 15
abbrev NT.nStmt : NT := 16
abbrev NT.nBehind : NT := 17
abbrev NT.nRight : NT := 18
abbrev NT.nLater : NT := 19
abbrev NT.nElse : NT := 20
abbrev NT.nResult : NT := 21

def NT.enc (x : NT) : ByteArray :=
  match x with
  | 0 => ⟨#[78, 65, 77, 69, 83]⟩
  | 1 => ⟨#[77, 79, 82, 69]⟩
  | 2 => ⟨#[80, 82, 79, 67, 83]⟩
  | 3 => ⟨#[80, 82, 79, 67]⟩
  | 4 => ⟨#[80, 65, 82, 65, 77, 83]⟩
  | 5 => ⟨#[66, 76, 79, 67, 75]⟩
  | 6 => ⟨#[83, 84, 77, 84, 83]⟩
  | 7 => ⟨#[86, 65, 76, 85, 69, 83]⟩
  | 8 => ⟨#[86, 65, 76, 85, 69]⟩
  | 9 => ⟨#[83, 72, 65, 82, 69, 68]⟩
  | 10 => ⟨#[76, 79, 67, 75, 83]⟩
  | 11 => ⟨#[69, 88, 80, 82]⟩
  | 12 => ⟨#[79, 82]⟩
  | 13 => ⟨#[84, 69, 82, 77]⟩
  | 14 => ⟨#[65, 78, 68]⟩
  | 15 => ⟨#[70, 65, 67, 84, 79, 82]⟩
  | 16 => ⟨#[83, 84, 77, 84]⟩
  | 17 => ⟨#[66, 69, 72, 73, 78, 68]⟩
  | 18 => ⟨#[82, 73, 71, 72, 84]⟩
  | 19 => ⟨#[76, 65, 84, 69, 82]⟩
  | 20 => ⟨#[69, 76, 83, 69]⟩
  | _ => ⟨#[82, 69, 83, 85, 76, 84]⟩

/-- What a symbol that is no token becomes, with the token t at hand. -/
def becB (x : NT) (t : ByteArray) : List ByteArray :=
  match x with
  | 0 => [⟨#[78, 65, 77, 69]⟩, ⟨#[77, 79, 82, 69]⟩]
  | 1 => if t = ⟨#[44]⟩ then [⟨#[44]⟩, ⟨#[78, 65, 77, 69]⟩, ⟨#[77, 79, 82, 69]⟩] else []
  | 2 => if t = ⟨#[112, 114, 111, 99]⟩ then [⟨#[80, 82, 79, 67]⟩, ⟨#[80, 82, 79, 67, 83]⟩] else []
  | 3 => [⟨#[112, 114, 111, 99]⟩, ⟨#[78, 65, 77, 69]⟩, ⟨#[40]⟩, ⟨#[80, 65, 82, 65, 77, 83]⟩, ⟨#[41]⟩, ⟨#[66, 76, 79, 67, 75]⟩]
  | 4 => if t = ⟨#[41]⟩ then [] else [⟨#[78, 65, 77, 69, 83]⟩]
  | 5 => [⟨#[123]⟩, ⟨#[83, 84, 77, 84, 83]⟩, ⟨#[125]⟩]
  | 6 => if t = ⟨#[125]⟩ then [] else [⟨#[83, 84, 77, 84]⟩, ⟨#[83, 84, 77, 84, 83]⟩]
  | 7 => if t = ⟨#[41]⟩ then [] else [⟨#[69, 88, 80, 82]⟩, ⟨#[86, 65, 76, 85, 69]⟩]
  | 8 => if t = ⟨#[44]⟩ then [⟨#[44]⟩, ⟨#[69, 88, 80, 82]⟩, ⟨#[86, 65, 76, 85, 69]⟩] else []
  | 9 => if t = ⟨#[115, 104, 97, 114, 101, 100]⟩ then [⟨#[115, 104, 97, 114, 101, 100]⟩, ⟨#[78, 65, 77, 69, 83]⟩, ⟨#[59]⟩] else []
  | 10 => if t = ⟨#[108, 111, 99, 107, 115]⟩ then [⟨#[108, 111, 99, 107, 115]⟩, ⟨#[78, 65, 77, 69, 83]⟩, ⟨#[59]⟩] else []
  | 11 => [⟨#[84, 69, 82, 77]⟩, ⟨#[79, 82]⟩]
  | 12 => if t = ⟨#[124]⟩ then [⟨#[124]⟩, ⟨#[84, 69, 82, 77]⟩, ⟨#[79, 82]⟩] else []
  | 13 => [⟨#[70, 65, 67, 84, 79, 82]⟩, ⟨#[65, 78, 68]⟩]
  | 14 => if t = ⟨#[38]⟩ then [⟨#[38]⟩, ⟨#[70, 65, 67, 84, 79, 82]⟩, ⟨#[65, 78, 68]⟩] else []
  | 15 => if t = ⟨#[33]⟩ then [⟨#[33]⟩, ⟨#[70, 65, 67, 84, 79, 82]⟩] else if t = ⟨#[40]⟩ then [⟨#[40]⟩, ⟨#[69, 88, 80, 82]⟩, ⟨#[41]⟩] else if isNameB t = true then [t] else if t = ⟨#[116, 114, 117, 101]⟩ then [⟨#[116, 114, 117, 101]⟩] else if t = ⟨#[102, 97, 108, 115, 101]⟩ then [⟨#[102, 97, 108, 115, 101]⟩] else if t = ⟨#[63]⟩ then [⟨#[63]⟩] else [⟨#[78, 65, 77, 69]⟩]
  | 16 => if isNameB t = true then [⟨#[78, 65, 77, 69]⟩, ⟨#[66, 69, 72, 73, 78, 68]⟩] else if t = ⟨#[105, 102]⟩ then [⟨#[105, 102]⟩, ⟨#[40]⟩, ⟨#[69, 88, 80, 82]⟩, ⟨#[41]⟩, ⟨#[66, 76, 79, 67, 75]⟩, ⟨#[69, 76, 83, 69]⟩] else if t = ⟨#[119, 104, 105, 108, 101]⟩ then [⟨#[119, 104, 105, 108, 101]⟩, ⟨#[40]⟩, ⟨#[69, 88, 80, 82]⟩, ⟨#[41]⟩, ⟨#[66, 76, 79, 67, 75]⟩] else if t = ⟨#[97, 115, 115, 117, 109, 101]⟩ then [⟨#[97, 115, 115, 117, 109, 101]⟩, ⟨#[69, 88, 80, 82]⟩, ⟨#[59]⟩] else if t = ⟨#[97, 99, 113, 117, 105, 114, 101]⟩ then [⟨#[97, 99, 113, 117, 105, 114, 101]⟩, ⟨#[78, 65, 77, 69]⟩, ⟨#[59]⟩] else if t = ⟨#[114, 101, 108, 101, 97, 115, 101]⟩ then [⟨#[114, 101, 108, 101, 97, 115, 101]⟩, ⟨#[78, 65, 77, 69]⟩, ⟨#[59]⟩] else if t = ⟨#[114, 101, 116, 117, 114, 110]⟩ then [⟨#[114, 101, 116, 117, 114, 110]⟩, ⟨#[82, 69, 83, 85, 76, 84]⟩, ⟨#[59]⟩] else [⟨#[115, 107, 105, 112]⟩, ⟨#[59]⟩]
  | 17 => if t = ⟨#[40]⟩ then [⟨#[40]⟩, ⟨#[86, 65, 76, 85, 69, 83]⟩, ⟨#[41]⟩, ⟨#[59]⟩] else [⟨#[61]⟩, ⟨#[82, 73, 71, 72, 84]⟩, ⟨#[59]⟩]
  | 18 => if isNameB t = true then [⟨#[78, 65, 77, 69]⟩, ⟨#[76, 65, 84, 69, 82]⟩] else [⟨#[69, 88, 80, 82]⟩]
  | 19 => if t = ⟨#[40]⟩ then [⟨#[40]⟩, ⟨#[86, 65, 76, 85, 69, 83]⟩, ⟨#[41]⟩] else [⟨#[65, 78, 68]⟩, ⟨#[79, 82]⟩]
  | 20 => if t = ⟨#[101, 108, 115, 101]⟩ then [⟨#[101, 108, 115, 101]⟩, ⟨#[66, 76, 79, 67, 75]⟩] else []
  | _ => if t = ⟨#[59]⟩ then [] else [⟨#[69, 88, 80, 82]⟩]

theorem becB_result (t : ByteArray) : becB .nResult t = if t = ⟨#[59]⟩ then [] else [⟨#[69, 88, 80, 82]⟩] := rfl

def NT.all : List NT := [.nNames, .nMore, .nProcs, .nProc, .nParams, .nBlock, .nStmts, .nValues, .nValue, .nShared, .nLocks, .nExpr, .nOr, .nTerm, .nAnd, .nFactor, .nStmt, .nBehind, .nRight, .nLater, .nElse, .nResult]

theorem NT.inAll (x : NT) : ∃ m ∈ NT.all, m.enc = x.enc := by
  match x with
  | 0 => exact ⟨.nNames, by simp [NT.all], rfl⟩
  | 1 => exact ⟨.nMore, by simp [NT.all], rfl⟩
  | 2 => exact ⟨.nProcs, by simp [NT.all], rfl⟩
  | 3 => exact ⟨.nProc, by simp [NT.all], rfl⟩
  | 4 => exact ⟨.nParams, by simp [NT.all], rfl⟩
  | 5 => exact ⟨.nBlock, by simp [NT.all], rfl⟩
  | 6 => exact ⟨.nStmts, by simp [NT.all], rfl⟩
  | 7 => exact ⟨.nValues, by simp [NT.all], rfl⟩
  | 8 => exact ⟨.nValue, by simp [NT.all], rfl⟩
  | 9 => exact ⟨.nShared, by simp [NT.all], rfl⟩
  | 10 => exact ⟨.nLocks, by simp [NT.all], rfl⟩
  | 11 => exact ⟨.nExpr, by simp [NT.all], rfl⟩
  | 12 => exact ⟨.nOr, by simp [NT.all], rfl⟩
  | 13 => exact ⟨.nTerm, by simp [NT.all], rfl⟩
  | 14 => exact ⟨.nAnd, by simp [NT.all], rfl⟩
  | 15 => exact ⟨.nFactor, by simp [NT.all], rfl⟩
  | 16 => exact ⟨.nStmt, by simp [NT.all], rfl⟩
  | 17 => exact ⟨.nBehind, by simp [NT.all], rfl⟩
  | 18 => exact ⟨.nRight, by simp [NT.all], rfl⟩
  | 19 => exact ⟨.nLater, by simp [NT.all], rfl⟩
  | 20 => exact ⟨.nElse, by simp [NT.all], rfl⟩
  | k + 21 => exact ⟨.nResult, by simp [NT.all], rfl⟩

/-- Which symbol that is no token it is, if any. -/
def ntOf (s : ByteArray) : Option NT := NT.all.find? fun n => decide (n.enc = s)

theorem ntOf_some {s : ByteArray} {n : NT} (h : ntOf s = some n) : s = n.enc := by
  have := List.find?_some h
  exact (of_decide_eq_true this).symm
theorem ntOf_none {s : ByteArray} (h : ntOf s = none) (n : NT) : s ≠ n.enc := by
  intro e
  obtain ⟨m, hm, he⟩ := NT.inAll n
  have := List.find?_eq_none.1 h m hm
  exact this (decide_eq_true (he.trans e.symm))

end RR
