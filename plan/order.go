package plan

import "races/syntax"

// entered answers the number of the statement at which a block is entered.
func entered(list []syntax.Statement, in syntax.Block) int {
	return comesNext(list, in, 0)
}

// comesNext answers the first statement of a block from a number on, or, if there is none, what comes next behind the
// block. An `if` without `else` needs no rule of its own: it goes on as if an empty block stood there. The search ends,
// since a block's owner stands ahead of it in the list, and in a procedure's own block there is always its END.
func comesNext(list []syntax.Statement, in syntax.Block, from int) int {
	at, found := firstIn(list, in, from)
	last := len(list)
	for !found && in.Owner >= 0 && in.Owner < last {
		last = in.Owner
		owner := list[last]
		if owner.Kind == syntax.While {
			return last
		}
		in = owner.In
		at, found = firstIn(list, in, last+1)
	}
	return at
}

func firstIn(list []syntax.Statement, in syntax.Block, from int) (int, bool) {
	for i, s := range list {
		if i >= from && s.In == in {
			return i, true
		}
	}
	return 0, false
}
