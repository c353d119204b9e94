package syntax

// Kind tells which of its forms a statement has.
type Kind int

const (
	Assign Kind = iota
	CallProc
	If
	While
	Assume
	Acquire
	Release
	Return
	Skip
	End // a procedure's END: it counts as the last statement of the procedure's own block
)

// Block tells a block from all others.
type Block struct {
	Proc  int  // the number of its procedure
	Owner int  // the number of the `if` or `while` whose block it is, -1 if it is the procedure's own
	Else  bool // it stands behind `else`
}

// Statement is a statement or an END, with its place. Those in its blocks stand behind it in the outline's list.
type Statement struct {
	Kind   Kind
	At     int
	In     Block
	Target int    // the number of the name ahead of `=`, -1 if there is none
	Name   int    // the number of the name of its lock or of the procedure it calls, -1 if there is none
	Values []Expr // what is worked out in a step from it
}

// Expr is an EXPR: its nodes are those from First to Last, and Last is the whole.
type Expr struct {
	First, Last int
}

// Sign tells what a node of an EXPR stands for.
type Sign int

const (
	False Sign = iota
	True
	Choice // `?`
	Named  // a NAME
	Not    // of Right
	And    // of Left and Right
	Or     // of Left and Right
)

// Node is a part of an EXPR. The parts that it is made of stand ahead of it, in the nodes of the same EXPR.
type Node struct {
	Sign  Sign
	Name  int // the number of its name, -1 if it has none
	Left  int
	Right int
}
