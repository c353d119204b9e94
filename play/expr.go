package play

import (
	"races/api"
	"races/plan"
	"races/syntax"
)

// sight is what a step sees while it works out its EXPRs.
type sight struct {
	shared [api.MaxShared]bool
	params [api.MaxParams]bool
	choice bool
}

func (s sight) workOutAll(nodes []plan.Node, list []syntax.Expr) []bool {
	var values []bool
	for _, e := range list {
		value := s.workOut(nodes, e)
		values = append(values, value)
	}
	return values
}

// workOut goes through the nodes once: what a node is made of stands ahead of it.
func (s sight) workOut(nodes []plan.Node, e syntax.Expr) bool {
	var values []bool
	for i := e.First; i >= 0 && i <= e.Last && i < len(nodes); i++ {
		n := nodes[i]
		left := valueAt(values, n.Left-e.First)
		right := valueAt(values, n.Right-e.First)
		value := s.valueOf(n, left, right)
		values = append(values, value)
	}
	return valueAt(values, e.Last-e.First)
}

func (s sight) valueOf(n plan.Node, left bool, right bool) bool {
	switch n.Sign {
	case syntax.True:
		return true
	case syntax.Choice:
		return s.choice
	case syntax.Named:
		return s.truth(n.Truth)
	case syntax.Not:
		return !right
	case syntax.And:
		return left && right
	case syntax.Or:
		return left || right
	}
	return false
}

func (s sight) truth(t plan.Truth) bool {
	if t.Owner == plan.OfAll && t.Number >= 0 && t.Number < len(s.shared) {
		return s.shared[t.Number]
	}
	if t.Owner == plan.OfFrame && t.Number >= 0 && t.Number < len(s.params) {
		return s.params[t.Number]
	}
	return false
}

// valueAt answers false where there is no value: so a `return` without EXPR gives back false.
func valueAt(values []bool, i int) bool {
	if i < 0 || i >= len(values) {
		return false
	}
	return values[i]
}
