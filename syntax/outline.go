// Package syntax reads tokens as a program.
package syntax

// Role tells what a name is given to, or what it is used as.
type Role int

const (
	Shared  Role = iota // given to a shared truth
	Lock                // given to a lock
	Proc                // given to a procedure
	Param               // given to a parameter
	Truth               // used ahead of `=` or in an EXPR
	LockUse             // used behind `acquire` or `release`
	Callee              // used ahead of the `(` of a CALL
	Thread              // used behind `threads`
)

// Name is a NAME where it stands in the text.
type Name struct {
	Word string
	At   int
	Role Role
	Proc int // the number of the procedure in or ahead of whose block it stands, from 0 on
}

// Call is a CALL, with the place of its NAME.
type Call struct {
	Word   string
	At     int
	Values int // how many EXPRs it has
}

// Outline is a program as it stands in the text: what its names are checked by, and what it is planned from. Its lists
// are in the order of the text; one names an item of another by its number, from 0 on.
type Outline struct {
	Names      []Name
	Calls      []Call
	Statements []Statement
	Nodes      []Node
}
