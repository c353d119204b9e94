// Package plan lays a checked program out for playing: its names are numbers, and each line knows what comes next.
package plan

import (
	"races/api"
	"races/syntax"
)

// Owner tells of what a truth is one.
type Owner int

const (
	NoTruth Owner = iota
	OfAll         // a shared truth
	OfFrame       // a parameter of the frame
)

// Truth is a shared truth or a parameter, by its number.
type Truth struct {
	Owner  Owner
	Number int
}

// Node is a node of an EXPR, as in package syntax, with the truth that it names.
type Node struct {
	Sign  syntax.Sign
	Truth Truth
	Left  int
	Right int
}

// Line is a statement or an END.
type Line struct {
	Kind      syntax.Kind
	At        int
	Params    int   // how many the procedure has in which it stands
	Next      int   // the number of the line that comes next behind it
	Then      int   // of `if` and `while`: the line at which it goes on with true
	Else      int   // of `if` and `while`: the line at which it goes on with false
	Target    Truth // what stands ahead of `=`
	Lock      int   // of `acquire` and `release`
	Proc      int   // of a CALL
	Values    []syntax.Expr
	HasChoice bool // a `?` stands in Values
	Reads     [api.MaxShared]bool
}

// Proc is a procedure.
type Proc struct {
	Params int // how many it has
	Entry  int // the line at which its block is entered
}

// Program is a program as it is played.
type Program struct {
	Shared  int   // how many it has
	Locks   int   // how many it has
	Threads []int // of each thread the number of its procedure
	Procs   []Proc
	Lines   []Line
	Nodes   []Node
}

// Line answers an END for a number that no line has.
func (p Program) Line(number int) Line {
	if number < 0 || number >= len(p.Lines) {
		return Line{Kind: syntax.End}
	}
	return p.Lines[number]
}

// Proc answers one without parameters for a number that no procedure has.
func (p Program) Proc(number int) Proc {
	if number < 0 || number >= len(p.Procs) {
		return Proc{}
	}
	return p.Procs[number]
}
