package races

import (
	"strings"
	"testing"

	"races/api"
)

// answers holds Check's examples of the document, and one program for each error.
var answers = []struct {
	program string
	e       api.Errno
	at      int
}{
	{"", api.ErrSyntax, 0},
	{"proc p() { } threads p", api.ErrSyntax, 22},
	{"proc p() { x = 1; }", api.ErrToken, 15},
	{"proc p() { x = true; } threads p;", api.ErrName, 11},
	{"shared p; proc p() { } threads p;", api.ErrName, 15},
	{"proc p(a) { p(); } threads p;", api.ErrArity, 12},
	{"proc p() { } threads p, p, p, p;", api.ErrMany, 30},
	{strings.Repeat("proc ", 101), api.ErrLong, 0},
	{"shared x; proc p() { x = true; } threads p, p;", api.OK, 0},
	{"shared x; locks m; proc p() { acquire m; x = !x; release m; } threads p, p;", api.OK, 0},
	{"shared x; proc p() { while (?) { } x = p(); } threads p;", api.OK, 0},
}

func checkAnswer(t *testing.T, i int) {
	t.Helper()
	c := answers[i]
	e, at := Check(c.program)
	if e != c.e || at != c.at {
		t.Errorf("Check(%.80q) = %d, %d, want %d, %d", c.program, e, at, c.e, c.at)
	}
}

// P3
func TestCheck(t *testing.T) {
	for i := range answers {
		checkAnswer(t, i)
	}
}

// P2: the same call again answers the same, behind each other one.
func TestCheckKeepsNothing(t *testing.T) {
	for i := range answers {
		for j := range answers {
			checkAnswer(t, i)
			checkAnswer(t, j)
			Play(answers[i].program, "ab")
			Contexts("ab")
			Search(answers[j].program, 1, 1)
			checkAnswer(t, i)
		}
	}
}

// P1: what Check answers is an error of its own with a place in the text, or OK and 0.
func checkIsSane(t *testing.T, program string) {
	t.Helper()
	e, at := Check(program)
	if e < api.OK || e > api.ErrArity || at < 0 || at > len(program) {
		t.Errorf("Check(%.80q) = %d, %d", program, e, at)
	}
	if (e == api.OK || e == api.ErrLong) && at != 0 {
		t.Errorf("Check(%.80q) = %d, %d", program, e, at)
	}
	if (e == api.ErrLong) != (len(program) > 500) {
		t.Errorf("Check(%.80q) = %d, %d: %d bytes", program, e, at, len(program))
	}
}

// P1: each program, cut off anywhere, and with each byte put in anywhere.
func TestCheckNeighbours(t *testing.T) {
	for _, c := range answers {
		if c.e == api.ErrLong {
			continue
		}
		for i := 0; i <= len(c.program); i++ {
			checkIsSane(t, c.program[:i])
			checkIsSane(t, c.program[i:])
			for b := 0; b < 256; b++ {
				checkIsSane(t, c.program[:i]+string([]byte{byte(b)})+c.program[i:])
			}
		}
	}
}

// P1: long rows of one piece, up to the bound and above it, on their own and inside a procedure.
func TestCheckRows(t *testing.T) {
	pieces := strings.Fields("a true shared locks proc threads if else while ( ) { } ! & | ? ; , = !( (! {{ x=( if( if(x){ p(p(p a, !!a \x00 \xff")
	for _, piece := range pieces {
		for _, head := range []string{"", "proc p() { ", "proc p() { x = ", "proc p(", "proc p() { p("} {
			for _, size := range []int{1, 7, 8, 9, 100, 499, 500, 501, 2000, 100000} {
				for _, gap := range []string{"", " "} {
					row := head + strings.Repeat(piece+gap, size)
					checkIsSane(t, row)
					if len(row) > size {
						checkIsSane(t, row[:size])
					}
				}
			}
		}
	}
}

// P1: rows of tokens in no order, by a fixed rule.
func TestCheckMixtures(t *testing.T) {
	tokens := strings.Fields("shared locks proc threads if else while assume acquire release return skip true false x p m ; , = ! & | ? ( ) { } $")
	seed := uint32(1)
	for n := 0; n < 20000; n++ {
		text := "proc p() {"
		for len(text) < 60 {
			seed = seed*1664525 + 1013904223
			text += " " + tokens[int(seed>>16)%len(tokens)]
		}
		checkIsSane(t, text)
	}
}

// P1: what Play answers is an error of its own with a place and nothing else, or a view and 0.
func playIsSane(t *testing.T, program string, schedule string) {
	t.Helper()
	v, e, at := Play(program, schedule)
	wrong, place := Check(program)
	switch {
	case wrong != api.OK:
		if e != wrong || at != place {
			t.Errorf("Play(%.80q, %.40q) = %d, %d, Check says %d, %d", program, schedule, e, at, wrong, place)
		}
	case len(schedule) > 200:
		if e != api.ErrLong || at != 0 {
			t.Errorf("Play(%.80q, %d bytes) = %d, %d", program, len(schedule), e, at)
		}
	case e != api.OK && (e != api.ErrStep || at < 0 || at >= len(schedule)), e == api.OK && (at != 0 || v.Text == ""):
		t.Errorf("Play(%.80q, %.40q) = %+v, %d, %d", program, schedule, v, e, at)
	}
	if e != api.OK && v != (api.View{}) {
		t.Errorf("Play(%.80q, %.40q) = %+v beside %d", program, schedule, v, e)
	}
}

// P1: each program with each of its tokens left out, put twice, or put in another's place.
func TestPlayNeighbours(t *testing.T) {
	tokens := strings.Fields("if else while return skip true x p m ; , = ! & ? ( ) { }")
	for _, program := range []string{one, two, three, four, "shared x; proc p(a) { if (?) { x = p(!a & x); } else { return a; } } threads p, p, p;"} {
		for i := 0; i < len(program); i++ {
			for _, word := range append(tokens, "") {
				for _, schedule := range []string{"", "ab", "aAbBcC", "aaaaaaaaaaaa"} {
					playIsSane(t, program[:i]+word+program[i+1:], schedule)
				}
			}
			playIsSane(t, program[:i], "a")
			playIsSane(t, program[i:], "a")
		}
	}
}

// P1: what Search answers is an error and nothing else, or a report with as many points as there may be.
func searchIsSane(t *testing.T, program string, contexts int, steps int) {
	t.Helper()
	r, e := Search(program, contexts, steps)
	wrong, _ := Check(program)
	within := contexts >= 1 && contexts <= 6 && steps >= 0 && steps <= 60
	switch {
	case wrong != api.OK && e != wrong, wrong == api.OK && within == (e == api.ErrArg), e > api.ErrArg && e != api.ErrBig:
		t.Errorf("Search(%.80q, %d, %d) = %+v, %d, Check says %d", program, contexts, steps, r, e, wrong)
	case e != api.OK && r != (api.Report{}):
		t.Errorf("Search(%.80q, %d, %d) = %+v beside %d", program, contexts, steps, r, e)
	case e == api.OK && (r.Points < 1 || r.Points > 600 || !r.Race && r.RaceBy != "" || !r.Dead && r.DeadBy != "" || r.Whole && (steps == 0 || r.Race && r.Dead)):
		t.Errorf("Search(%.80q, %d, %d) = %+v", program, contexts, steps, r)
	}
}

// P1: each program with each of its bytes left out, or a token put in its place, and cut off anywhere.
func TestSearchNeighbours(t *testing.T) {
	tokens := strings.Fields("if while return x p m ; , = ! & ? ( ) { }")
	for _, program := range []string{one, two, three, four, "shared x; proc p(a) { if (?) { x = p(!a & x); } else { return a; } } threads p, p, p;"} {
		for i := 0; i < len(program); i++ {
			for _, word := range append(tokens, "") {
				searchIsSane(t, program[:i]+word+program[i+1:], 1, 60)
				searchIsSane(t, program[:i]+word+program[i+1:], 6, 7)
				searchIsSane(t, program[:i]+word+program[i+1:], 7, 7)
			}
			searchIsSane(t, program[:i], 2, 5)
			searchIsSane(t, program[i:], 2, 5)
		}
	}
}

// P1: no call panics.
func TestCallsEnd(t *testing.T) {
	long := strings.Repeat("a", 1000000)
	for _, s := range []string{"", "a", "d", "\x00\xff", "ab?", long[:200], long[:201], long} {
		for _, c := range answers {
			playIsSane(t, c.program, s)
			playIsSane(t, s, c.program)
		}
		Contexts(s)
		for _, n := range []int{-1 << 63, -1, 0, 1, 6, 7, 60, 61, 1<<63 - 1} {
			searchIsSane(t, s, n, n)
			searchIsSane(t, answers[8].program, n, 0)
			searchIsSane(t, answers[8].program, 1, n)
		}
	}
}

// What is given in package api is as the document says.
func TestGivenNumbers(t *testing.T) {
	errors := []api.Errno{api.OK, api.ErrLong, api.ErrToken, api.ErrSyntax, api.ErrMany, api.ErrName, api.ErrArity, api.ErrArg, api.ErrStep, api.ErrBig}
	for i, e := range errors {
		if int(e) != i {
			t.Errorf("error %d is %d", i, e)
		}
	}
	bounds := []int{api.MaxText, api.MaxWord, api.MaxDepth, api.MaxShared, api.MaxLocks, api.MaxProcs, api.MaxParams, api.MaxThreads, api.MaxFrames, api.MaxSchedule, api.MaxContexts, api.MaxSteps, api.MaxPoints}
	want := []int{500, 8, 6, 4, 3, 4, 3, 3, 4, 200, 6, 60, 600}
	for i := range want {
		if bounds[i] != want[i] {
			t.Errorf("bound %d is %d, want %d", i, bounds[i], want[i])
		}
	}
}
