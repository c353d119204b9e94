package plan

import "races/syntax"

// numberOf answers the number of the name among those of its role, -1 if it is none of them.
func numberOf(names []syntax.Name, word string, role syntax.Role) int {
	count := 0
	for _, n := range names {
		if n.Role == role && n.Word == word {
			return count
		}
		if n.Role == role {
			count++
		}
	}
	return -1
}

// paramOf answers the number of the name among the parameters of a procedure, -1 if it is none of them.
func paramOf(names []syntax.Name, word string, proc int) int {
	count := 0
	for _, n := range names {
		own := n.Role == syntax.Param && n.Proc == proc
		if own && n.Word == word {
			return count
		}
		if own {
			count++
		}
	}
	return -1
}

func paramsOf(names []syntax.Name, proc int) int {
	count := 0
	for _, n := range names {
		if n.Role == syntax.Param && n.Proc == proc {
			count++
		}
	}
	return count
}

// truthOf answers the truth that is meant by the i-th name, none if there is no such name.
func truthOf(names []syntax.Name, i int) Truth {
	if i < 0 || i >= len(names) {
		return Truth{}
	}
	shared := numberOf(names, names[i].Word, syntax.Shared)
	if shared >= 0 {
		return Truth{Owner: OfAll, Number: shared}
	}
	param := paramOf(names, names[i].Word, names[i].Proc)
	if param >= 0 {
		return Truth{Owner: OfFrame, Number: param}
	}
	return Truth{}
}

func wordOf(names []syntax.Name, i int) string {
	if i < 0 || i >= len(names) {
		return ""
	}
	return names[i].Word
}
