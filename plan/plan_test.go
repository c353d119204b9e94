package plan

import (
	"fmt"
	"testing"

	"races/api"
	"races/check"
	"races/syntax"
)

func planOf(t *testing.T, text string) Program {
	t.Helper()
	o, e, at := check.Read(text)
	if e != api.OK {
		t.Fatalf("%q: %d, %d", text, e, at)
	}
	return Make(o)
}

// unmark answers a program without its digits, and their places.
func unmark(marked string) (string, map[byte]int) {
	places := map[byte]int{}
	text := ""
	for _, b := range []byte(marked) {
		if b >= '0' && b <= '9' {
			places[b] = len(text)
		} else {
			text += string([]byte{b})
		}
	}
	return text, places
}

// wants: behind each mark its line's Next; of `if` and `while` Then and Else too.
func TestOrder(t *testing.T) {
	for _, c := range []struct {
		marked string
		wants  []string
	}{
		{"proc p() { 1skip; 2skip; 3} threads p;", []string{"12", "23"}},
		{"proc p() { 1if (?) { 2skip; 3skip; } else { 4skip; 5skip; } 6skip; 7} threads p;", []string{"1624", "23", "36", "45", "56", "67"}},
		{"proc p() { 1if (?) { 2skip; } 3} threads p;", []string{"1323", "23"}},
		{"proc p() { 1if (?) { } else { 2skip; } 3} threads p;", []string{"1332", "23"}},
		{"proc p() { 1while (?) { 2skip; 3skip; } 4} threads p;", []string{"1424", "23", "31"}},
		{"proc p() { 1while (?) { } 4} threads p;", []string{"1414"}},
		{"proc p() { 1while (?) { 2if (?) { } } 4} threads p;", []string{"1424", "2111"}},
		{"proc p() { 1if (?) { 2if (?) { 3if (?) { 4skip; } else { } } else { } } 5skip; 6} threads p;", []string{"1525", "2535", "3545", "45"}},
		{"proc p() { 1while (?) { 2while (?) { 3if (?) { 4skip; } else { 5while (?) { } } } } 6} threads p;", []string{"1626", "2131", "3245", "42", "5252"}},
		{"proc p() { 1skip; 2} proc q() { 3if (?) { 4skip; } 5} proc r() { 6} threads p;", []string{"12", "3545", "45"}},
	} {
		text, places := unmark(c.marked)
		p := planOf(t, text)
		byPlace := map[int]Line{}
		for _, line := range p.Lines {
			byPlace[line.At] = line
		}
		if len(byPlace) != len(places) {
			t.Errorf("%q has %d lines", text, len(byPlace))
		}
		for _, want := range c.wants {
			line := byPlace[places[want[0]]]
			if p.Lines[line.Next].At != places[want[1]] {
				t.Errorf("%q: behind %c comes %d", c.marked, want[0], p.Lines[line.Next].At)
			}
			if len(want) > 2 && (p.Lines[line.Then].At != places[want[2]] || p.Lines[line.Else].At != places[want[3]]) {
				t.Errorf("%q: %c goes on at %d and %d", c.marked, want[0], p.Lines[line.Then].At, p.Lines[line.Else].At)
			}
		}
	}
}

func TestNumbers(t *testing.T) {
	p := planOf(t, "shared x, y; locks m, n, l; proc p() { acquire n; release l; q(x); x = r(x, y); } proc q(a) { y = a; a = y; } proc r(b, a) { b = a; a = b; } threads r, p, r;")
	if p.Shared != 2 || p.Locks != 3 {
		t.Errorf("%d shared, %d locks", p.Shared, p.Locks)
	}
	if fmt.Sprint(p.Procs) != "[{0 0} {1 5} {2 8}]" {
		t.Errorf("procs %v", p.Procs)
	}
	if fmt.Sprint(p.Threads) != "[2 0 2]" {
		t.Errorf("threads %v", p.Threads)
	}
	none, x, y := Truth{}, Truth{OfAll, 0}, Truth{OfAll, 1}
	first, second := Truth{OfFrame, 0}, Truth{OfFrame, 1}
	for i, want := range []struct {
		kind       syntax.Kind
		target     Truth
		lock, proc int
		params     int
		values     int
	}{
		{syntax.Acquire, none, 1, 0, 0, 0}, {syntax.Release, none, 2, 0, 0, 0}, {syntax.CallProc, none, 0, 1, 0, 1}, {syntax.CallProc, x, 0, 2, 0, 2}, {syntax.End, none, 0, 0, 0, 0},
		{syntax.Assign, y, 0, 0, 1, 1}, {syntax.Assign, first, 0, 0, 1, 1}, {syntax.End, none, 0, 0, 1, 0},
		{syntax.Assign, first, 0, 0, 2, 1}, {syntax.Assign, second, 0, 0, 2, 1}, {syntax.End, none, 0, 0, 2, 0},
	} {
		line := p.Line(i)
		if line.Kind != want.kind || line.Target != want.target || line.Lock != want.lock || line.Proc != want.proc || line.Params != want.params || len(line.Values) != want.values {
			t.Errorf("line %d is %+v, want %+v", i, line, want)
		}
	}
}

func TestReadsAndChoices(t *testing.T) {
	p := planOf(t, "shared x, y, z, u; proc p(a, b, c) { x = y; y = u | !(z & ?); a = b; p(x, a, y); if (u) { z = ?; } while (?) { x = x; } assume a & x; return z; return; skip; } threads p;")
	for i, want := range []struct {
		reads  string
		choice bool
	}{
		{"y", false}, {"zu", true}, {"", false}, {"xy", false}, {"u", false}, {"", true}, {"", true}, {"x", false}, {"x", false}, {"z", false}, {"", false}, {"", false}, {"", false},
	} {
		line := p.Line(i)
		reads := ""
		for k, read := range line.Reads {
			if read {
				reads += "xyzu"[k : k+1]
			}
		}
		if reads != want.reads || line.HasChoice != want.choice {
			t.Errorf("line %d reads %q, choice %v, want %+v", i, reads, line.HasChoice, want)
		}
	}
}

func TestNumbersThatAreNone(t *testing.T) {
	p := planOf(t, "proc p(a) { a = true; } threads p;")
	for _, i := range []int{-1 << 63, -1, 2, 1<<63 - 1} {
		if line := p.Line(i); line.Kind != syntax.End || line.At != 0 {
			t.Errorf("line %d is %+v", i, line)
		}
		if proc := p.Proc(i); proc != (Proc{}) {
			t.Errorf("procedure %d is %+v", i, proc)
		}
	}
}
