package syntax

import (
	"strings"

	"races/token"
)

// grammar is the document's, one rule a line, without empty rules. NAME is a name; capitals are rules, the rest tokens.
const grammar = `
PROGRAM PROCS threads NAMES ;
PROGRAM shared NAMES ; PROCS threads NAMES ;
PROGRAM locks NAMES ; PROCS threads NAMES ;
PROGRAM shared NAMES ; locks NAMES ; PROCS threads NAMES ;
NAMES NAME
NAMES NAMES , NAME
PROCS PROC
PROCS PROCS PROC
PROC proc NAME ( ) BLOCK
PROC proc NAME ( NAMES ) BLOCK
BLOCK { }
BLOCK { STATEMENTS }
STATEMENTS STATEMENT
STATEMENTS STATEMENTS STATEMENT
STATEMENT NAME = EXPR ;
STATEMENT NAME = CALL ;
STATEMENT CALL ;
STATEMENT if ( EXPR ) BLOCK
STATEMENT if ( EXPR ) BLOCK else BLOCK
STATEMENT while ( EXPR ) BLOCK
STATEMENT assume EXPR ;
STATEMENT acquire NAME ;
STATEMENT release NAME ;
STATEMENT return ;
STATEMENT return EXPR ;
STATEMENT skip ;
CALL NAME ( )
CALL NAME ( EXPRS )
EXPRS EXPR
EXPRS EXPRS , EXPR
EXPR TERM
EXPR EXPR | TERM
TERM FACTOR
TERM TERM & FACTOR
FACTOR true
FACTOR false
FACTOR ?
FACTOR NAME
FACTOR ( EXPR )
FACTOR ! FACTOR
`

// item is a rule of which so many parts have been seen, from a token on.
type item struct {
	rule, seen, from int
}

// oracle tells by the grammar alone (Earley's way) where a row of tokens stops being the beginning of a program.
type oracle struct {
	rules [][]string
	heads map[string][]int
}

func newOracle() *oracle {
	o := &oracle{heads: map[string][]int{}}
	for _, line := range strings.Split(strings.TrimSpace(grammar), "\n") {
		rule := strings.Fields(line)
		o.heads[rule[0]] = append(o.heads[rule[0]], len(o.rules))
		o.rules = append(o.rules, rule)
	}
	return o
}

// next answers the part of a rule that must come now, "" behind the last.
func (o *oracle) next(i item) string {
	rule := o.rules[i.rule]
	if i.seen+1 < len(rule) {
		return rule[i.seen+1]
	}
	return ""
}

// fill adds to the set behind token k all that follows from it; sets[:k] are whole.
func (o *oracle) fill(sets [][]item, k int) {
	known := map[item]bool{}
	for _, i := range sets[k] {
		known[i] = true
	}
	add := func(i item) {
		if !known[i] {
			known[i] = true
			sets[k] = append(sets[k], i)
		}
	}
	for at := 0; at < len(sets[k]); at++ {
		i := sets[k][at]
		part := o.next(i)
		if part != "" {
			for _, rule := range o.heads[part] {
				add(item{rule, 0, k})
			}
			continue
		}
		head := o.rules[i.rule][0]
		for _, back := range sets[i.from] {
			if o.next(back) == head {
				add(item{back.rule, back.seen + 1, back.from})
			}
		}
	}
}

// fault answers how many tokens stand ahead of the first that can't stand where it does, and whether all is a program.
func (o *oracle) fault(tokens []token.Token) (int, bool) {
	sets := make([][]item, len(tokens)+1)
	for _, rule := range o.heads["PROGRAM"] {
		sets[0] = append(sets[0], item{rule, 0, 0})
	}
	depth := 0
	for k, t := range tokens {
		o.fill(sets, k)
		part := t.Text
		if t.Name {
			part = "NAME"
		}
		for _, i := range sets[k] {
			if o.next(i) == part {
				sets[k+1] = append(sets[k+1], item{i.rule, i.seen + 1, i.from})
			}
		}
		switch part {
		case "(", "{":
			depth++
		case ")", "}":
			depth--
		}
		if len(sets[k+1]) == 0 || depth > 6 {
			return k, false
		}
	}
	o.fill(sets, len(tokens))
	for _, i := range sets[len(tokens)] {
		if i.from == 0 && o.rules[i.rule][0] == "PROGRAM" && o.next(i) == "" {
			return 0, true
		}
	}
	return len(tokens), false
}
