/- The grammar's symbols and what they become: plain functions. No Go here. -/
import Derived.Test.YtlpmkpjhdahfhaaGreatDoorPure
namespace RR

inductive NT where
  | nNames
  | nMore
  | nProcs
  | nProc
  | nParams
  | nBlock
  | nStmts
  | nValues
  | nValue
  | nShared
  | nLocks
  | nExpr
  | nOr
  | nTerm
  | nAnd
  | nFactor
  | nStmt
  | nBehind
  | nRight
  | nLater
  | nElse
  | nResult
  deriving DecidableEq

def NT.enc : NT → ByteArray
  | .nNames => ⟨#[78, 65, 77, 69, 83]⟩
  | .nMore => ⟨#[77, 79, 82, 69]⟩
  | .nProcs => ⟨#[80, 82, 79, 67, 83]⟩
  | .nProc => ⟨#[80, 82, 79, 67]⟩
  | .nParams => ⟨#[80, 65, 82, 65, 77, 83]⟩
  | .nBlock => ⟨#[66, 76, 79, 67, 75]⟩
  | .nStmts => ⟨#[83, 84, 77, 84, 83]⟩
  | .nValues => ⟨#[86, 65, 76, 85, 69, 83]⟩
  | .nValue => ⟨#[86, 65, 76, 85, 69]⟩
  | .nShared => ⟨#[83, 72, 65, 82, 69, 68]⟩
  | .nLocks => ⟨#[76, 79, 67, 75, 83]⟩
  | .nExpr => ⟨#[69, 88, 80, 82]⟩
  | .nOr => ⟨#[79, 82]⟩
  | .nTerm => ⟨#[84, 69, 82, 77]⟩
  | .nAnd => ⟨#[65, 78, 68]⟩
  | .nFactor => ⟨#[70, 65, 67, 84, 79, 82]⟩
  | .nStmt => ⟨#[83, 84, 77, 84]⟩
  | .nBehind => ⟨#[66, 69, 72, 73, 78, 68]⟩
  | .nRight => ⟨#[82, 73, 71, 72, 84]⟩
  | .nLater => ⟨#[76, 65, 84, 69, 82]⟩
  | .nElse => ⟨#[69, 76, 83, 69]⟩
  | .nResult => ⟨#[82, 69, 83, 85, 76, 84]⟩

/-- What a symbol that is no token becomes, with the token t at hand. -/
def becB : NT → ByteArray → List ByteArray
  | .nNames, _ => [⟨#[78, 65, 77, 69]⟩, ⟨#[77, 79, 82, 69]⟩]
  | .nMore, t => if t = ⟨#[44]⟩ then [⟨#[44]⟩, ⟨#[78, 65, 77, 69]⟩, ⟨#[77, 79, 82, 69]⟩] else []
  | .nProcs, t => if t = ⟨#[112, 114, 111, 99]⟩ then [⟨#[80, 82, 79, 67]⟩, ⟨#[80, 82, 79, 67, 83]⟩] else []
  | .nProc, _ => [⟨#[112, 114, 111, 99]⟩, ⟨#[78, 65, 77, 69]⟩, ⟨#[40]⟩, ⟨#[80, 65, 82, 65, 77, 83]⟩, ⟨#[41]⟩, ⟨#[66, 76, 79, 67, 75]⟩]
  | .nParams, t => if t = ⟨#[41]⟩ then [] else [⟨#[78, 65, 77, 69, 83]⟩]
  | .nBlock, _ => [⟨#[123]⟩, ⟨#[83, 84, 77, 84, 83]⟩, ⟨#[125]⟩]
  | .nStmts, t => if t = ⟨#[125]⟩ then [] else [⟨#[83, 84, 77, 84]⟩, ⟨#[83, 84, 77, 84, 83]⟩]
  | .nValues, t => if t = ⟨#[41]⟩ then [] else [⟨#[69, 88, 80, 82]⟩, ⟨#[86, 65, 76, 85, 69]⟩]
  | .nValue, t => if t = ⟨#[44]⟩ then [⟨#[44]⟩, ⟨#[69, 88, 80, 82]⟩, ⟨#[86, 65, 76, 85, 69]⟩] else []
  | .nShared, t => if t = ⟨#[115, 104, 97, 114, 101, 100]⟩ then [⟨#[115, 104, 97, 114, 101, 100]⟩, ⟨#[78, 65, 77, 69, 83]⟩, ⟨#[59]⟩] else []
  | .nLocks, t => if t = ⟨#[108, 111, 99, 107, 115]⟩ then [⟨#[108, 111, 99, 107, 115]⟩, ⟨#[78, 65, 77, 69, 83]⟩, ⟨#[59]⟩] else []
  | .nExpr, _ => [⟨#[84, 69, 82, 77]⟩, ⟨#[79, 82]⟩]
  | .nOr, t => if t = ⟨#[124]⟩ then [⟨#[124]⟩, ⟨#[84, 69, 82, 77]⟩, ⟨#[79, 82]⟩] else []
  | .nTerm, _ => [⟨#[70, 65, 67, 84, 79, 82]⟩, ⟨#[65, 78, 68]⟩]
  | .nAnd, t => if t = ⟨#[38]⟩ then [⟨#[38]⟩, ⟨#[70, 65, 67, 84, 79, 82]⟩, ⟨#[65, 78, 68]⟩] else []
  | .nFactor, t => if t = ⟨#[33]⟩ then [⟨#[33]⟩, ⟨#[70, 65, 67, 84, 79, 82]⟩] else if t = ⟨#[40]⟩ then [⟨#[40]⟩, ⟨#[69, 88, 80, 82]⟩, ⟨#[41]⟩] else if isNameB t = true then [t] else if t = ⟨#[116, 114, 117, 101]⟩ then [⟨#[116, 114, 117, 101]⟩] else if t = ⟨#[102, 97, 108, 115, 101]⟩ then [⟨#[102, 97, 108, 115, 101]⟩] else if t = ⟨#[63]⟩ then [⟨#[63]⟩] else [⟨#[78, 65, 77, 69]⟩]
  | .nStmt, t => if isNameB t = true then [⟨#[78, 65, 77, 69]⟩, ⟨#[66, 69, 72, 73, 78, 68]⟩] else if t = ⟨#[105, 102]⟩ then [⟨#[105, 102]⟩, ⟨#[40]⟩, ⟨#[69, 88, 80, 82]⟩, ⟨#[41]⟩, ⟨#[66, 76, 79, 67, 75]⟩, ⟨#[69, 76, 83, 69]⟩] else if t = ⟨#[119, 104, 105, 108, 101]⟩ then [⟨#[119, 104, 105, 108, 101]⟩, ⟨#[40]⟩, ⟨#[69, 88, 80, 82]⟩, ⟨#[41]⟩, ⟨#[66, 76, 79, 67, 75]⟩] else if t = ⟨#[97, 115, 115, 117, 109, 101]⟩ then [⟨#[97, 115, 115, 117, 109, 101]⟩, ⟨#[69, 88, 80, 82]⟩, ⟨#[59]⟩] else if t = ⟨#[97, 99, 113, 117, 105, 114, 101]⟩ then [⟨#[97, 99, 113, 117, 105, 114, 101]⟩, ⟨#[78, 65, 77, 69]⟩, ⟨#[59]⟩] else if t = ⟨#[114, 101, 108, 101, 97, 115, 101]⟩ then [⟨#[114, 101, 108, 101, 97, 115, 101]⟩, ⟨#[78, 65, 77, 69]⟩, ⟨#[59]⟩] else if t = ⟨#[114, 101, 116, 117, 114, 110]⟩ then [⟨#[114, 101, 116, 117, 114, 110]⟩, ⟨#[82, 69, 83, 85, 76, 84]⟩, ⟨#[59]⟩] else [⟨#[115, 107, 105, 112]⟩, ⟨#[59]⟩]
  | .nBehind, t => if t = ⟨#[40]⟩ then [⟨#[40]⟩, ⟨#[86, 65, 76, 85, 69, 83]⟩, ⟨#[41]⟩, ⟨#[59]⟩] else [⟨#[61]⟩, ⟨#[82, 73, 71, 72, 84]⟩, ⟨#[59]⟩]
  | .nRight, t => if isNameB t = true then [⟨#[78, 65, 77, 69]⟩, ⟨#[76, 65, 84, 69, 82]⟩] else [⟨#[69, 88, 80, 82]⟩]
  | .nLater, t => if t = ⟨#[40]⟩ then [⟨#[40]⟩, ⟨#[86, 65, 76, 85, 69, 83]⟩, ⟨#[41]⟩] else [⟨#[65, 78, 68]⟩, ⟨#[79, 82]⟩]
  | .nElse, t => if t = ⟨#[101, 108, 115, 101]⟩ then [⟨#[101, 108, 115, 101]⟩, ⟨#[66, 76, 79, 67, 75]⟩] else []
  | .nResult, t => if t = ⟨#[59]⟩ then [] else [⟨#[69, 88, 80, 82]⟩]

def NT.all : List NT := [.nNames, .nMore, .nProcs, .nProc, .nParams, .nBlock, .nStmts, .nValues, .nValue, .nShared, .nLocks, .nExpr, .nOr, .nTerm, .nAnd, .nFactor, .nStmt, .nBehind, .nRight, .nLater, .nElse, .nResult]

/-- Which symbol that is no token it is, if any. -/
def ntOf (s : ByteArray) : Option NT := NT.all.find? fun n => decide (n.enc = s)

theorem ntOf_some {s : ByteArray} {n : NT} (h : ntOf s = some n) : s = n.enc := by
  have := List.find?_some h
  exact (of_decide_eq_true this).symm
theorem ntOf_none {s : ByteArray} (h : ntOf s = none) (n : NT) : s ≠ n.enc := by
  intro e
  have := List.find?_eq_none.1 h n (by cases n <;> decide)
  exact this (decide_eq_true e.symm)

end RR
