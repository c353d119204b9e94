package races

import (
	"strings"
	"testing"

	"races/api"
)

// spot is a point: the text of a configuration, the letter of the last thread (0: none), the number of contexts.
type spot struct {
	text     string
	last     byte
	contexts int
}

// tally has the spots that the rounds have seen, and makes what a search answers of them, by the document's words.
type tally struct {
	spots   map[spot]api.View
	now     found
	answers []answer // of each number of steps up to that of the last round
}

type answer struct {
	found found
	e     api.Errno
}

func newTally(start api.View) *tally {
	return &tally{spots: map[spot]api.View{{text: start.Text}: start}, now: found{race: none, dead: none}}
}

// endRound tells whether the search ends with this round, also if it may make more steps.
func (y *tally) endRound(round int, before int) bool {
	for _, v := range y.spots {
		if v.Race && y.now.race == none {
			y.now.race = round
		}
		if v.Dead && y.now.dead == none {
			y.now.dead = round
		}
	}
	if len(y.spots) > 600 {
		y.answers = append(y.answers, answer{e: api.ErrBig})
		return true
	}
	y.now.points = len(y.spots)
	y.now.whole = round > 0 && len(y.spots) == before
	y.answers = append(y.answers, answer{found: y.now})
	return y.now.race != none && y.now.dead != none || y.now.whole
}

// with answers what is found with so many steps.
func (y *tally) with(steps int) answer {
	return y.answers[min(steps, len(y.answers)-1)]
}

func contextsWith(s spot, letter byte) int {
	if s.last == letter|32 {
		return s.contexts
	}
	return s.contexts + 1
}

func (o *oracle) clone() *oracle {
	c := *o
	c.truths = map[string]bool{}
	c.holders = map[string]int{}
	c.frames = nil
	for name, value := range o.truths {
		c.truths[name] = value
	}
	for name, value := range o.holders {
		c.holders[name] = value
	}
	for _, frames := range o.frames {
		var list []*oracleFrame
		for _, f := range frames {
			g := &oracleFrame{node: f.node, params: map[string]bool{}}
			for name, value := range f.params {
				g.params[name] = value
			}
			list = append(list, g)
		}
		c.frames = append(c.frames, list)
	}
	return &c
}

// chart has the configurations of a program, as the oracle plays them, and which ones come behind each.
type chart struct {
	start  string
	states map[string]*oracle
	views  map[string]api.View
	behind map[string]map[byte]string
}

func newChart(program string) *chart {
	c := &chart{states: map[string]*oracle{}, views: map[string]api.View{}, behind: map[string]map[byte]string{}}
	c.start = c.enter(newOracle(program))
	return c
}

func (c *chart) enter(o *oracle) string {
	text := o.text()
	if c.states[text] == nil {
		c.states[text] = o
		c.views[text] = o.view()
	}
	return text
}

func (c *chart) nexts(text string) map[byte]string {
	if c.behind[text] == nil {
		c.behind[text] = map[byte]string{}
		for _, letter := range []byte(c.views[text].Enabled) {
			o := c.states[text].clone()
			o.step(int(letter|32)-'a', letter < 'a', false)
			c.behind[text][letter] = c.enter(o)
		}
	}
	return c.behind[text]
}

// seek searches on a chart, up to the last round: each round goes one step from all spots of the one ahead of it.
func (c *chart) seek(contexts int) *tally {
	y := newTally(c.views[c.start])
	before := 0
	for round := 0; !y.endRound(round, before) && round < 60; round++ {
		before = len(y.spots)
		var list []spot
		for s := range y.spots {
			list = append(list, s)
		}
		for _, s := range list {
			for letter, text := range c.nexts(s.text) {
				if n := contextsWith(s, letter); n <= contexts {
					y.spots[spot{text, letter | 32, n}] = c.views[text]
				}
			}
		}
	}
	return y
}

// spell searches without a chart: each round plays all schedules that are one step longer. It ends also if these are too
// many; then the last round is the one ahead.
func spell(program string, contexts int) *tally {
	start, _, _ := Play(program, "")
	y := newTally(start)
	list := []string{""}
	before := 0
	for round := 0; !y.endRound(round, before) && len(list) < 1000 && round < 60; round++ {
		before = len(y.spots)
		var longer []string
		for _, schedule := range list {
			for _, letter := range strings.Split("abcABC", "") {
				v, e, _ := Play(program, schedule+letter)
				n, _ := Contexts(schedule + letter)
				if e == api.OK && n <= contexts {
					longer = append(longer, schedule+letter)
					y.spots[spot{v.Text, letter[0] | 32, n}] = v
				}
			}
		}
		list = longer
	}
	return y
}

// agrees: the search answers what was found in another way.
func agrees(t *testing.T, program string, contexts int, steps int, want answer) {
	t.Helper()
	if want.e == api.OK {
		finds(t, program, contexts, steps, want.found)
	} else {
		searchFails(t, program, contexts, steps, want.e)
	}
}

// P6, word by word: all schedules are played, none is left out.
func TestSearchIsAllSchedules(t *testing.T) {
	programs := []string{one, two, three, four, turns(2), turns(4),
		"shared x; locks m; proc p() { x = ?; acquire m; acquire m; } threads p, p;",
		"shared x, y; proc p() { while (?) { x = !x; } y = x; } threads p, p;",
		"proc p(a) { a = !a; p(a); } threads p, p, p;",
		"proc p() { while (true) { } } threads p, p, p;",
		"locks m; proc p() { acquire m; release m; p(); } threads p, p, p;",
		"shared x; proc f() { return !x; } proc p() { while (true) { x = f(); } } threads p, p;",
	}
	spelt := 0
	for _, program := range programs {
		for contexts := 1; contexts <= 6; contexts++ {
			y := spell(program, contexts)
			for steps := range y.answers {
				agrees(t, program, contexts, steps, y.with(steps))
				spelt++
			}
		}
	}
	if spelt < 500 {
		t.Errorf("only %d searches", spelt)
	}
}

// drawn: programs by a fixed rule, of few pieces, so that most of them are searched whole.
func drawn(w *writer) string {
	pieces := []string{"x = true; ", "x = ?; ", "y = x; ", "acquire m; ", "acquire m; ", "release m; ", "acquire n; ", "acquire n; ", "release n; ", "skip; ",
		"if (x) { y = true; } ", "if (?) { acquire m; release m; } else { y = !y; } ", "while (!y) { } ", "while (?) { x = !x; } ", "assume x | y; ", "assume ? & !y; ", "return; ", "f(?); ", "y = f(y); "}
	text := "shared x, y; locks m, n; proc f(a) { " + w.oneOf(pieces[:10]) + "return x & a; } "
	threads := "threads p"
	for _, name := range strings.Fields("p q r")[:1+w.below(3)] {
		text += "proc " + name + "() { "
		for n := w.below(6); n > 0; n-- {
			text += w.oneOf(pieces)
		}
		text += "} "
		if name != "p" {
			threads += ", " + name
		}
	}
	return text + threads + ";"
}

// P6: programs by two fixed rules, with each number of contexts.
func TestSearchIsTheOracle(t *testing.T) {
	w := &writer{seed: 3}
	seen := map[string]int{}
	for n := 0; n < 400; n++ {
		program := drawn(w)
		if n%2 == 0 {
			program = w.program()
		}
		if len(program) > api.MaxText {
			continue
		}
		c := newChart(program)
		for contexts := 1; contexts <= 6; contexts++ {
			y := c.seek(contexts)
			for _, steps := range []int{w.below(10), w.below(30), 60} {
				agrees(t, program, contexts, steps, y.with(steps))
				seenIn(seen, y.with(steps))
			}
		}
		if t.Failed() {
			return
		}
	}
	for _, what := range []string{"big", "race", "dead", "both", "nothing", "whole", "cut off", "long"} {
		if seen[what] < 100 {
			t.Errorf("only %d searches are %s", seen[what], what)
		}
	}
}

func seenIn(seen map[string]int, a answer) {
	f, e := a.found, a.e
	race, dead := e == api.OK && f.race != none, e == api.OK && f.dead != none
	for _, c := range []struct {
		what string
		is   bool
	}{
		{"big", e == api.ErrBig}, {"race", race && !dead}, {"dead", dead && !race}, {"both", race && dead}, {"nothing", !race && !dead && e == api.OK},
		{"whole", f.whole}, {"cut off", !f.whole && e == api.OK}, {"long", max(f.race, f.dead) > 6},
	} {
		if c.is {
			seen[c.what]++
		}
	}
}
