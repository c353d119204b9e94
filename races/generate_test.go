package races

import "strings"

// writer writes programs in which no error is, by a fixed rule from a number.
type writer struct {
	seed   uint64
	shared []string
	locks  []string
	procs  []string
	params [][]string
	in     int // the number of the procedure that is written
	depth  int
}

func (w *writer) below(n int) int {
	w.seed = w.seed*6364136223846793005 + 1442695040888963407
	return int(w.seed>>33) % n
}

func (w *writer) gap() string {
	return []string{" ", " ", "", "\n", "  "}[w.below(5)]
}

func (w *writer) oneOf(list []string) string {
	return list[w.below(len(list))]
}

func (w *writer) truths() []string {
	return append(append([]string{}, w.shared...), w.params[w.in]...)
}

func (w *writer) expr(depth int) string {
	parts := []string{"true", "false", "?", "?"}
	parts = append(parts, w.truths()...)
	parts = append(parts, w.truths()...)
	parts = append(parts, w.truths()...)
	text := w.factor(depth, parts)
	for w.below(3) == 0 {
		text += w.gap() + w.oneOf([]string{"&", "|"}) + w.gap() + w.factor(depth, parts)
	}
	return text
}

func (w *writer) factor(depth int, parts []string) string {
	text := strings.Repeat("!"+w.gap(), w.below(3))
	if depth < 6 && w.below(6) == 0 {
		return text + "(" + w.expr(depth+1) + ")"
	}
	return text + w.oneOf(parts)
}

func (w *writer) call(depth int) string {
	callee := w.below(len(w.procs))
	var values []string
	for range w.params[callee] {
		values = append(values, w.expr(depth+1))
	}
	return w.procs[callee] + w.gap() + "(" + strings.Join(values, ","+w.gap()) + ")"
}

func (w *writer) block(depth int, most int) string {
	text := "{" + w.gap()
	for n := w.below(most + 1); n > 0; n-- {
		text += w.statement(depth+1) + w.gap()
	}
	return text + "}"
}

func (w *writer) statement(depth int) string {
	list := w.truths()
	switch w.below(13) {
	case 0, 1, 2:
		if len(list) > 0 {
			return w.oneOf(list) + w.gap() + "=" + w.gap() + w.expr(depth) + ";"
		}
	case 3, 4:
		if len(list) > 0 && depth < 6 {
			return w.oneOf(list) + w.gap() + "=" + w.call(depth) + ";"
		}
	case 5:
		if depth < 6 {
			return w.call(depth) + ";"
		}
	case 6, 7:
		if depth < 5 {
			text := "if" + w.gap() + "(" + w.expr(depth+1) + ")" + w.gap() + w.block(depth, 2)
			if w.below(2) == 0 {
				text += w.gap() + "else" + w.gap() + w.block(depth, 2)
			}
			return text
		}
	case 8:
		if depth < 5 {
			return "while" + w.gap() + "(" + w.expr(depth+1) + ")" + w.gap() + w.block(depth, 2)
		}
	case 9, 10:
		if len(w.locks) > 0 {
			return w.oneOf([]string{"acquire ", "acquire ", "release "}) + w.oneOf(w.locks) + ";"
		}
	case 11:
		return "assume " + w.expr(depth) + ";"
	case 12:
		if w.below(2) == 0 {
			return w.oneOf([]string{"return;", "return " + w.expr(depth) + ";"})
		}
	}
	return "skip;"
}

func (w *writer) program() string {
	w.shared = strings.Fields("x y zed u")[:w.below(5)]
	w.locks = strings.Fields("m nn l")[:w.below(4)]
	w.procs = strings.Fields("p q main r")[:1+w.below(4)]
	w.params = nil
	text := ""
	if len(w.shared) > 0 {
		text += "shared " + strings.Join(w.shared, ",") + ";"
	}
	if len(w.locks) > 0 {
		text += "locks " + strings.Join(w.locks, " , ") + ";\n"
	}
	for range w.procs {
		w.params = append(w.params, strings.Fields("a b c")[:w.below(4)])
	}
	for i, name := range w.procs {
		w.in = i
		text += "proc " + name + "(" + strings.Join(w.params[i], ", ") + ")" + w.gap() + w.block(0, 4) + w.gap()
	}
	text += "threads " + w.oneOf(w.procs)
	for n := w.below(3); n > 0; n-- {
		text += "," + w.gap() + w.oneOf(w.procs)
	}
	return text + ";"
}
