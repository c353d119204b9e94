package check

import "races/syntax"

func firstWrongCall(o syntax.Outline) (int, bool) {
	for _, c := range o.Calls {
		if c.Values != paramsOf(o.Names, c.Word) {
			return c.At, true
		}
	}
	return 0, false
}

// paramsOf answers how many parameters a procedure has. No two procedures have one name when calls are checked.
func paramsOf(names []syntax.Name, word string) int {
	proc := -1
	count := 0
	for _, n := range names {
		if n.Role == syntax.Proc && n.Word == word {
			proc = n.Proc
		}
		if n.Role == syntax.Param && n.Proc == proc {
			count++
		}
	}
	return count
}
