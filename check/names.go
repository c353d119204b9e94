package check

import "races/syntax"

func firstGivenTwice(names []syntax.Name) (int, bool) {
	for i, n := range names {
		if givenTwice(names, i, n) {
			return n.At, true
		}
	}
	return 0, false
}

// givenTwice tells whether the name at i clashes: with one ahead of it, or, for a parameter, with one of the whole
// program's names anywhere, since these hold in all procedures, also behind.
func givenTwice(names []syntax.Name, i int, n syntax.Name) bool {
	for j, m := range names {
		if m.Word != n.Word {
			continue
		}
		if isWhole(n.Role) && isWhole(m.Role) && j < i {
			return true
		}
		if n.Role == syntax.Param && isWhole(m.Role) {
			return true
		}
		if n.Role == syntax.Param && m.Role == syntax.Param && m.Proc == n.Proc && j < i {
			return true
		}
	}
	return false
}

// isWhole tells whether the role gives a name that holds in the whole program.
func isWhole(role syntax.Role) bool {
	return role == syntax.Shared || role == syntax.Lock || role == syntax.Proc
}

func firstMisused(names []syntax.Name) (int, bool) {
	for _, n := range names {
		if misused(names, n) {
			return n.At, true
		}
	}
	return 0, false
}

func misused(names []syntax.Name, n syntax.Name) bool {
	switch n.Role {
	case syntax.Truth:
		return !isGiven(names, n.Word, syntax.Shared) && !isParam(names, n.Word, n.Proc)
	case syntax.LockUse:
		return !isGiven(names, n.Word, syntax.Lock)
	case syntax.Callee, syntax.Thread:
		return !isGiven(names, n.Word, syntax.Proc)
	}
	return false
}

func isGiven(names []syntax.Name, word string, role syntax.Role) bool {
	for _, n := range names {
		if n.Role == role && n.Word == word {
			return true
		}
	}
	return false
}

func isParam(names []syntax.Name, word string, proc int) bool {
	for _, n := range names {
		if n.Role == syntax.Param && n.Proc == proc && n.Word == word {
			return true
		}
	}
	return false
}
