package races

import (
	"strconv"
	"strings"
	"testing"

	"races/api"
)

const (
	one   = "shared x; proc p() { x = true; } threads p, p;"
	two   = "shared x; locks m; proc p() { acquire m; x = !x; release m; } threads p, p;"
	three = "locks m, n; proc p() { acquire m; acquire n; release n; release m; } proc q() { acquire n; acquire m; release m; release n; } threads p, q;"
	four  = "shared x; proc p() { while (?) { } x = p(); } threads p;"
)

// unmark answers a program without its digits, and a text in which @ with a digit is the place where that one stood.
func unmark(marked string, text string) (string, string) {
	program := ""
	for _, b := range []byte(marked) {
		if b >= '1' && b <= '9' {
			text = strings.ReplaceAll(text, "@"+string([]byte{b}), strconv.Itoa(len(program)))
		} else {
			program += string([]byte{b})
		}
	}
	return program, text
}

// comes: the schedule comes to a configuration, of which text, enabled steps and (as words) race and dead are told.
func comes(t *testing.T, marked string, schedule string, text string, enabled string, is string) {
	t.Helper()
	program, text := unmark(marked, text)
	want := api.View{Text: text, Enabled: enabled, Race: strings.Contains(is, "race"), Dead: strings.Contains(is, "dead")}
	v, e, at := Play(program, schedule)
	if v != want || e != api.OK || at != 0 {
		t.Errorf("Play(%q, %q) = %+v, %d, %d, want %+v", program, schedule, v, e, at, want)
	}
}

// fails: the answer is an error with its place, and nothing else.
func fails(t *testing.T, program string, schedule string, want api.Errno, place int) {
	t.Helper()
	v, e, at := Play(program, schedule)
	if v != (api.View{}) || e != want || at != place {
		t.Errorf("Play(%.80q, %.50q) = %+v, %d, %d, want %d, %d", program, schedule, v, e, at, want, place)
	}
}

// stops: in a program with marks, a step can't be made.
func stops(t *testing.T, marked string, schedule string, place int) {
	t.Helper()
	program, _ := unmark(marked, "")
	fails(t, program, schedule, api.ErrStep, place)
}

func TestPlayExamples(t *testing.T) {
	comes(t, one, "", "0//21:/21:", "ab", "race")
	comes(t, one, "a", "1//31:/21:", "ab", "")
	comes(t, one, "aa", "1///21:", "b", "")
	comes(t, one, "aabb", "1///", "", "")
	comes(t, two, "a", "0/a/41:/30:", "a", "")
	comes(t, three, "ab", "/ab/34:/91:", "", "dead")
	comes(t, four, "aa", "0//35:,21:", "aA", "")
	comes(t, four, "Aaa", "0//35:,21:", "aA", "")
	fails(t, one, "aaa", api.ErrStep, 2)
	fails(t, one, "A", api.ErrStep, 0)
	fails(t, two, "ab", api.ErrStep, 1)
	fails(t, four, "aaaaaaaa", api.ErrStep, 7)
}

func TestPlayErrorsOfCheck(t *testing.T) {
	for _, c := range answers {
		if c.e != api.OK {
			for _, schedule := range []string{"", "a", "?", strings.Repeat("a", 201)} {
				fails(t, c.program, schedule, c.e, c.at)
			}
		}
	}
}

func TestPlayLongSchedules(t *testing.T) {
	program := "proc p() { while (true) { } } threads p;"
	comes(t, program, strings.Repeat("a", 200), "//11:", "a", "")
	fails(t, program, strings.Repeat("a", 201), api.ErrLong, 0)
	fails(t, program, strings.Repeat("?", 201), api.ErrLong, 0)
	fails(t, program, strings.Repeat("?", 200), api.ErrStep, 0)
	fails(t, program, strings.Repeat("a", 199)+"?", api.ErrStep, 199)
	fails(t, program, strings.Repeat("a", 1000000), api.ErrLong, 0)
}

// A byte is a step's only if the program has that thread, at each number of threads.
func TestPlayEveryByte(t *testing.T) {
	program := "proc p(a) { a = ?; } threads p"
	for threads := 1; threads <= 3; threads++ {
		for b := 0; b < 256; b++ {
			step := string([]byte{byte(b)})
			_, e, at := Play(program+strings.Repeat(", p", threads-1)+";", step)
			known := strings.Contains("abc"[:threads]+"ABC"[:threads], step)
			if known != (e == api.OK) || at != 0 || !known && e != api.ErrStep {
				t.Errorf("%d threads, byte %d: %d, %d", threads, b, e, at)
			}
			fails(t, program+";", "aa"+step, api.ErrStep, 2)
		}
	}
}

func TestPlayBegins(t *testing.T) {
	comes(t, "proc p() { 1} threads p;", "", "//@1:", "a", "")
	comes(t, "shared x, y, z, u; locks k, l, m; proc p(a, b, c) 2{ 1skip; 3} threads p, p, p;", "", "0000/---/@1:000/@1:000/@1:000", "abc", "")
	comes(t, "proc q() { 1} proc p(a) { 2if (?) { 3 } 4} threads p, q, p;", "", "//@2:0/@1:/@2:0", "aAbcC", "")
	comes(t, "\n\nproc p(){1while(?){}}threads p;", "", "//@1:", "aA", "")
}

func TestPlayChoices(t *testing.T) {
	for _, c := range []struct{ statement, enabled string }{
		{"x = ?;", "aA"}, {"a = x & (!a | ?);", "aA"}, {"x = a;", "a"}, {"x = true;", "a"}, {"skip;", "a"}, {"", "a"},
		{"if (?) { }", "aA"}, {"if (x) { x = ?; }", "a"}, {"if (x) { } else { x = ?; }", "a"},
		{"while (false & ?) { }", "aA"}, {"while (x) { x = ?; }", "a"},
		{"assume ?;", "A"}, {"assume !?;", "a"}, {"assume ? | !?;", "aA"}, {"assume ? & !?;", ""}, {"assume true; x = ?;", "a"}, {"assume false;", ""},
		{"acquire m; x = ?;", "a"}, {"release m; x = ?;", ""}, {"return;", "a"}, {"return ?;", "aA"}, {"return true | ?;", "aA"}, {"return x;", "a"},
		{"q(?);", "aA"}, {"q(x);", "a"}, {"x = q(a & !!?);", "aA"}, {"x = q(a);", "a"}, {"r(x, ?);", "aA"}, {"r(?, x);", "aA"}, {"a = r(a, a);", "a"},
	} {
		head := "shared x; locks m; proc q(b) { b = ?; return ?; } proc r(b, c) { } proc p(a) { "
		v, e, at := Play(head+c.statement+" } threads p;", "")
		if e != api.OK || at != 0 || v.Enabled != c.enabled || v.Dead {
			t.Errorf("%q: %+v, %d, %d, want %q", c.statement, v, e, at, c.enabled)
		}
		if !strings.Contains(c.enabled, "A") {
			fails(t, head+c.statement+" } threads p;", "A", api.ErrStep, 0)
		}
	}
	// The choice is that of the step: the EXPRs of a CALL are not worked out again when it gives back.
	comes(t, "shared x; proc q(b) { 1return; } proc p() { 2x = q(?); 3} threads p;", "A", "0//@2:,@1:1", "a", "")
	comes(t, "shared x; proc q() { 1return !?; } proc p() { 2x = q(); 3} threads p;", "a", "0//@2:,@1:", "aA", "")
	comes(t, "shared x; proc q() { 1return !?; } proc p() { 2x = q(); 3} threads p;", "aa", "1//@3:", "a", "")
	comes(t, "shared x; proc q() { 1return !?; } proc p() { 2x = q(); 3} threads p;", "aA", "0//@3:", "a", "")
}

func TestPlayExprs(t *testing.T) {
	for _, c := range []struct{ expr, schedule, value string }{
		{"true", "a", "1"}, {"false", "a", "0"}, {"!true", "a", "0"}, {"!!true", "a", "1"}, {"?", "a", "0"}, {"?", "A", "1"},
		{"true | true & false", "a", "1"}, {"true & false | true", "a", "1"}, {"(true | true) & false", "a", "0"}, {"false & true | false", "a", "0"},
		{"!false & false", "a", "0"}, {"!(false & false)", "a", "1"}, {"!true | true", "a", "1"}, {"!(true | true)", "a", "0"},
		{"true & true & false", "a", "0"}, {"false | false | true", "a", "1"}, {"true & true & true", "a", "1"},
		{"? & !?", "A", "0"}, {"? | !?", "a", "1"}, {"!? & ?", "a", "0"}, {"? & (true & ?)", "A", "1"},
		{"x", "a", "0"}, {"y", "a", "1"}, {"a", "a", "0"}, {"b", "a", "1"}, {"!x & y & !a & b", "a", "1"}, {"x | !y | a | !b", "a", "0"},
	} {
		marked := "shared x, y, z; proc p(a, b, c) { y = true; b = true; 1z = " + c.expr + "; 2c = " + c.expr + "; 3} threads p;"
		comes(t, marked, "aa"+c.schedule, "01"+c.value+"//@2:010", enabledBy(c.expr), "")
		comes(t, marked, "aa"+c.schedule+c.schedule, "01"+c.value+"//@3:01"+c.value, "a", "")
	}
}

func enabledBy(expr string) string {
	if strings.Contains(expr, "?") {
		return "aA"
	}
	return "a"
}

func TestPlayBlocks(t *testing.T) {
	both := "proc p() { 1if (?) { 2skip; 3skip; } else { 4skip; 5skip; } 6skip; 7} threads p;"
	comes(t, both, "A", "//@2:", "a", "")
	comes(t, both, "Aa", "//@3:", "a", "")
	comes(t, both, "Aaa", "//@6:", "a", "")
	comes(t, both, "a", "//@4:", "a", "")
	comes(t, both, "aaa", "//@6:", "a", "")
	comes(t, both, "aaaa", "//@7:", "a", "")
	comes(t, both, "aaaaa", "//", "", "")
	last := "proc p() { 1while (?) { 2skip; 3if (?) { 4skip; } } 5} threads p;"
	comes(t, last, "Aa", "//@3:", "aA", "")
	comes(t, last, "Aaa", "//@1:", "aA", "")
	comes(t, last, "AaA", "//@4:", "a", "")
	comes(t, last, "AaAa", "//@1:", "aA", "")
	comes(t, last, "AaAaa", "//@5:", "a", "")
	nested := "proc p() { 1while (?) { 2while (?) { 3while (?) { 4skip; } } } 5} threads p;"
	comes(t, nested, "AAAa", "//@3:", "aA", "")
	comes(t, nested, "AAAaa", "//@2:", "aA", "")
	comes(t, nested, "AAa", "//@2:", "aA", "")
	comes(t, nested, "Aa", "//@1:", "aA", "")
	comes(t, nested, "AAaaa", "//@5:", "a", "")
	inElse := "proc p() { 1if (?) { } else { 2if (?) { 3skip; } else { 4while (?) { 5skip; } } } 6skip; 7} threads p;"
	comes(t, inElse, "A", "//@6:", "a", "")
	comes(t, inElse, "aA", "//@3:", "a", "")
	comes(t, inElse, "aAa", "//@6:", "a", "")
	comes(t, inElse, "aaAa", "//@4:", "aA", "")
	comes(t, inElse, "aaa", "//@6:", "a", "")
}

func TestPlayEmptyBlocks(t *testing.T) {
	comes(t, "proc p() { if (?) { } 1} threads p;", "A", "//@1:", "a", "")
	comes(t, "proc p() { if (?) { } 1} threads p;", "a", "//@1:", "a", "")
	comes(t, "proc p() { if (?) { } else { } 1skip; } threads p;", "A", "//@1:", "a", "")
	comes(t, "proc p() { if (?) { } else { } 1skip; } threads p;", "a", "//@1:", "a", "")
	comes(t, "proc p() { 1while (?) { } 2} threads p;", "AAA", "//@1:", "aA", "")
	comes(t, "proc p() { 1while (?) { } 2} threads p;", "AAAa", "//@2:", "a", "")
	for _, choice := range []string{"a", "A"} {
		comes(t, "proc p() { 1while (true) { 2if (?) { } } 3} threads p;", "a"+choice, "//@1:", "a", "")
		comes(t, "proc p() { 1while (true) { 2if (?) { } else { } } 3} threads p;", "a"+choice, "//@1:", "a", "")
		comes(t, "proc p() { 1if (true) { 2if (true) { 3if (?) { } } } 4} threads p;", "aa"+choice, "//@4:", "a", "")
		comes(t, "proc p() { 1if (false) { } else { 2if (false) { 9 } else { 3if (?) { } else { } } } 4skip; 5} threads p;", "aa"+choice, "//@4:", "a", "")
		comes(t, "proc p() { 1while (true) { 2if (true) { 3if (?) { } } else { 4skip; } } 5} threads p;", "aa"+choice, "//@1:", "a", "")
	}
	comes(t, "proc p() { 1while (true) { 2while (?) { } } 3} threads p;", "aA", "//@2:", "aA", "")
	comes(t, "proc p() { 1while (true) { 2while (?) { } } 3} threads p;", "aa", "//@1:", "a", "")
	comes(t, "proc q() { 1} proc p() { 2q(); 3} threads p;", "a", "//@2:,@1:", "a", "")
	comes(t, "proc q() { 1} proc p() { 2while (true) { 3q(); } 4} threads p;", "aaa", "//@2:", "a", "")
}

func TestPlayCalls(t *testing.T) {
	calls := "shared x; proc f(a, b) { 1a = !a; 2return a & b; 3} proc p(c, d) { 4d = f(c, true); 5x = f(!d, d); 6f(d, d); 7} threads p;"
	comes(t, calls, "a", "0//@4:00,@1:01", "a", "")
	comes(t, calls, "aa", "0//@4:00,@2:11", "a", "")
	comes(t, calls, "aaa", "0//@5:01", "a", "")
	comes(t, calls, "aaaa", "0//@5:01,@1:01", "a", "")
	comes(t, calls, "aaaaaa", "1//@6:01", "a", "")
	comes(t, calls, "aaaaaaa", "1//@6:01,@1:11", "a", "")
	comes(t, calls, "aaaaaaaaa", "1//@7:01", "a", "")
	comes(t, calls, "aaaaaaaaaa", "1//", "", "")
	stops(t, calls, "aaaaaaaaaaa", 10)
	// What is given back is false without an EXPR, also at END, and goes nowhere without NAME =.
	for _, back := range []string{"return; ", "", "return false; ", "if (false) { return true; } return; "} {
		comes(t, "shared x; proc f() { "+back+"} proc p(a) { x = true; 1x = f(); 2a = true; 3a = f(); 4} threads p;", "aa"+until(back), "0//@2:0", "a", "")
		comes(t, "shared x; proc f() { "+back+"} proc p(a) { x = true; 1x = f(); 2a = true; 3a = f(); 4} threads p;", "aa"+until(back)+"aa"+until(back), "0//@4:0", "a", "")
	}
	comes(t, "shared x; proc f() { 1return true; } proc p(a) { 2f(); 3} threads p;", "aa", "0//@3:0", "a", "")
	comes(t, "proc p() { 1return true; 2skip; 3} threads p;", "a", "//", "", "")
	comes(t, "proc f() { while (true) { if (true) { return; } } } proc p() { f(); 1} threads p;", "aaaa", "//@1:", "a", "")
	// The value goes to the parameter of the frame below, where names are its own.
	comes(t, "proc f(a, b) { 1return true; } proc p(b, a) { 2a = f(b, b); 3} threads p;", "aa", "//@3:01", "a", "")
}

// until answers the steps that give back.
func until(back string) string {
	if strings.HasPrefix(back, "if") {
		return "aa"
	}
	return "a"
}

func TestPlayRecursion(t *testing.T) {
	deep := "proc p(a) { 1if (?) { 2a = p(!a); } 3return !a; 4} threads p, p;"
	comes(t, deep, "AaAaAa", "//@2:0,@2:1,@2:0,@1:1/@1:0", "aAbB", "")
	comes(t, deep, "AaAaAaA", "//@2:0,@2:1,@2:0,@2:1/@1:0", "bB", "")
	stops(t, deep, "AaAaAaAa", 7)
	stops(t, deep, "AaAaAaAA", 7)
	comes(t, deep, "AaAaAaaa", "//@2:0,@2:1,@3:0/@1:0", "abB", "")
	comes(t, deep, "AaAaAaaaa", "//@2:0,@3:1/@1:0", "abB", "")
	comes(t, deep, "AaAaAaaaaa", "//@3:0/@1:0", "abB", "")
	comes(t, deep, "AaAaAaaaaaa", "///@1:0", "bB", "")
	comes(t, "proc p() { 1p(); 2} threads p;", "aaa", "//@1:,@1:,@1:,@1:", "", "")
	stops(t, "proc p() { p(); } threads p;", "aaaa", 3)
	// Each thread has its own frames.
	comes(t, "proc p() { 1p(); 2} threads p, p, p;", "abcabcabc", "//@1:,@1:,@1:,@1:/@1:,@1:,@1:,@1:/@1:,@1:,@1:,@1:", "", "")
	comes(t, "proc p() { 1q(); 2} proc q() { 3p(); 4} threads q;", "aaa", "//@3:,@1:,@3:,@1:", "", "")
	comes(t, "proc p() { 1q(); 2} proc q() { 3r(); 4} proc r() { 5s(); 6} proc s() { 7} threads p;", "aaaa", "//@1:,@3:,@6:", "a", "")
}

func TestPlayLocks(t *testing.T) {
	locks := "locks m, n; proc p() { 1acquire n; 2acquire m; 3release n; 4release m; 5} threads p, p, p;"
	comes(t, locks, "b", "/-b/@1:/@2:/@1:", "b", "")
	comes(t, locks, "bb", "/bb/@1:/@3:/@1:", "b", "")
	comes(t, locks, "bbb", "/b-/@1:/@4:/@1:", "abc", "")
	comes(t, locks, "bbbc", "/bc/@1:/@4:/@2:", "b", "")
	comes(t, locks, "bbbcb", "/-c/@1:/@5:/@2:", "bc", "")
	comes(t, locks, "bbbcbb", "/-c/@1://@2:", "c", "")
	stops(t, locks, "ba", 1)
	stops(t, locks, "bbbca", 4)
	// A lock is released by its holder alone, and held on behind the end; a free one can't be released.
	comes(t, "locks m; proc p() { 1release m; } proc q() { 3acquire m; 2} threads p, q;", "b", "/b/@1:/@2:", "b", "")
	comes(t, "locks m; proc p() { 1release m; } proc q() { 3acquire m; 2} threads p, q;", "bb", "/b/@1:/", "", "")
	comes(t, "locks m; proc f() { 1acquire m; 2} proc p() { 3f(); 4release m; 5} threads p, p;", "aaa", "/a/@4:/@3:", "ab", "")
}

func TestPlayDeadlocks(t *testing.T) {
	comes(t, "locks m; proc p() { 1acquire m; 2acquire m; 3} threads p;", "a", "/a/@2:", "", "dead")
	comes(t, "locks m; proc p() { 1acquire m; 2} threads p, p;", "aa", "/a//@1:", "", "dead")
	comes(t, "locks m; proc p() { 1acquire m; 2} threads p, p;", "a", "/a/@2:/@1:", "a", "")
	comes(t, "locks m; proc p() { 1acquire m; 2} proc q() { 3assume false; } threads p, q, p;", "aa", "/a//@3:/@1:", "", "dead")
	comes(t, "locks m; proc p() { 1acquire m; 2} proc q() { 3while (true) { } } threads p, q, p;", "aa", "/a//@3:/@1:", "b", "")
	comes(t, "locks m; proc p() { 1assume false; } proc q() { 2release m; } threads p, q;", "", "/-/@1:/@2:", "", "")
	comes(t, "proc p() { 1p(); } threads p;", "aaa", "//@1:,@1:,@1:,@1:", "", "")
	comes(t, "locks m; proc p() { 1p(); } proc q() { acquire m; 2acquire m; } threads p, q;", "aaab", "/b/@1:,@1:,@1:,@1:/@2:", "", "dead")
	comes(t, "locks m; proc p() { } proc q() { acquire m; } threads p, q;", "abb", "/b//", "", "")
	comes(t, "locks m; proc f() { 1acquire m; } proc p() { acquire m; 2f(); } threads p;", "aa", "/a/@2:,@1:", "", "dead")
	comes(t, "shared x; locks m; proc p() { acquire m; 1acquire m; } proc q() { 2assume x & ?; } threads p, q;", "a", "0/a/@1:/@2:", "", "dead")
	comes(t, "shared x; locks m; proc p() { acquire m; 1acquire m; } proc q() { 2assume !x & ?; } threads p, q;", "a", "0/a/@1:/@2:", "B", "")
}

// races of two places, in both orders of the threads and with a third thread ahead, between and behind.
func TestPlayRaces(t *testing.T) {
	for _, c := range []struct {
		one, other string
		race       bool
	}{
		{"x = true;", "x = true;", true}, {"x = ?;", "y = x;", true}, {"x = y;", "y = ?;", true}, {"x = y;", "z = y;", false}, {"x = ?;", "y = ?;", false},
		{"x = x;", "skip;", false}, {"x = ?;", "a = x;", true}, {"a = ?;", "a = ?;", false}, {"a = x;", "b = x;", false}, {"a = x & y;", "y = a;", true},
		{"x = ?;", "assume x;", true}, {"x = ?;", "assume y & (z | !!x);", true}, {"x = ?;", "assume y;", false}, {"assume x;", "assume x;", false},
		{"x = ?;", "if (x) { }", true}, {"x = ?;", "if (y) { y = x; x = y; } else { x = x; }", false}, {"x = ?;", "while (x) { }", true}, {"x = ?;", "while (y) { x = x; }", false},
		{"x = ?;", "return x;", true}, {"x = ?;", "return;", false}, {"x = ?;", "", false}, {"x = ?;", "skip; x = x;", false}, {"x = ?;", "acquire m;", false}, {"x = ?;", "release m;", false},
		{"x = ?;", "f(x);", true}, {"x = ?;", "a = f(x | y);", true}, {"x = ?;", "x = f(y);", false}, {"x = ?;", "x = f(x);", true}, {"x = f(?);", "x = f(?);", false}, {"y = ?;", "x = f(z & !y);", true},
		{"x = f(y);", "f(x);", false}, {"u = ?;", "g(x, y, u);", true}, {"u = ?;", "g(u, x, y);", true}, {"u = ?;", "g(x, y, z);", false}, {"u = u;", "u = !u;", true},
	} {
		head := "shared x, y, z, u; locks m; proc f(a) { x = a; } proc g(a, b, c) { } proc p(a, b) { " + c.one + " } proc q(a, b) { " + c.other + " } threads "
		for _, threads := range []string{"p, q;", "q, p;", "g, p, q;", "p, g, q;", "q, p, g;", "q, g, p;"} {
			v, e, _ := Play(head+threads, "")
			if e != api.OK || v.Race != c.race {
				t.Errorf("%q and %q, threads %s: %+v, %d, want race %v", c.one, c.other, threads, v, e, c.race)
			}
		}
		for _, threads := range []string{"p;", "q;"} {
			v, _, _ := Play(head+threads, "")
			if v.Race {
				t.Errorf("%q and %q race with one thread", c.one, c.other)
			}
		}
	}
}

func TestPlayRacesByGivingBack(t *testing.T) {
	end := "shared x, y; proc f() { 1} proc p(a) { 2x = f(); 3y = f(); 4f(); 5a = f(); 6} proc q() { 7assume x; } threads p, q;"
	comes(t, end, "", "00//@2:0/@7:", "a", "")
	comes(t, end, "a", "00//@2:0,@1:/@7:", "a", "race")
	comes(t, end, "aa", "00//@3:0/@7:", "a", "")
	comes(t, end, "aaa", "00//@3:0,@1:/@7:", "a", "")
	comes(t, end, "aaaaa", "00//@4:0,@1:/@7:", "a", "")
	comes(t, end, "aaaaaaa", "00//@5:0,@1:/@7:", "a", "")
	back := "shared x; proc f() { 1return true; } proc p() { 2x = f(); 3} threads p, p;"
	comes(t, back, "", "0//@2:/@2:", "ab", "")
	comes(t, back, "a", "0//@2:,@1:/@2:", "ab", "")
	comes(t, back, "ab", "0//@2:,@1:/@2:,@1:", "ab", "race")
	comes(t, back, "aab", "1//@3:/@2:,@1:", "ab", "")
	reads := "shared x, y; proc f() { 1return x; } proc p() { 2y = f(); } proc q() { 3x = ?; } proc r() { 4y = ?; } threads p, "
	comes(t, reads+"q;", "", "00//@2:/@3:", "abB", "")
	comes(t, reads+"q;", "a", "00//@2:,@1:/@3:", "abB", "race")
	comes(t, reads+"r;", "a", "00//@2:,@1:/@4:", "abB", "race")
	comes(t, reads+"p;", "ab", "00//@2:,@1:/@2:,@1:", "ab", "race")
	// Only the frame right below gets the value; a thread without one gives it to nothing.
	comes(t, "shared x; proc f() { 1} proc g() { 2f(); 3} proc p() { 4x = g(); } threads p, p;", "aabb", "0//@4:,@2:,@1:/@4:,@2:,@1:", "ab", "")
	comes(t, "shared x; proc f() { 1} proc g() { 2f(); 3} proc p() { 4x = g(); } threads p, p;", "aaabbb", "0//@4:,@3:/@4:,@3:", "ab", "race")
	comes(t, "shared x; proc p() { 1return true; } proc q() { 2x = p(); } threads p, q, p;", "b", "0//@1:/@2:,@1:/@1:", "abc", "")
	// A thread that has ended is at no place.
	comes(t, one, "aa", "1///21:", "b", "")
	comes(t, "shared x; proc p() { 1x = true; 2} threads p, p, p;", "aa", "1///@1:/@1:", "bc", "race")
	comes(t, "shared x; proc p() { 1x = true; 2} threads p, p, p;", "aabb", "1////@1:", "c", "")
}

// A place races also where its step can't be made.
func TestPlayRacesOfBlockedThreads(t *testing.T) {
	comes(t, "shared x; proc p(a) { 1p(x); } proc q() { 2x = ?; } threads p, q;", "aaa", "0//@1:0,@1:0,@1:0,@1:0/@2:", "bB", "race")
	comes(t, "shared x; proc p() { 1assume x; } proc q() { 2x = ?; } threads p, q;", "", "0//@1:/@2:", "bB", "race")
}

// P2: the same call again, behind each other one, answers the same.
func TestPlayKeepsNothing(t *testing.T) {
	programs := []string{one, two, three, four, "", "proc p(a) { p(); } threads p;"}
	schedules := []string{"", "a", "ab", "aa", "aaaaaaaa", "A", "?", strings.Repeat("a", 201)}
	type answer struct {
		v     api.View
		e     api.Errno
		at    int
		count int
		f     api.Errno
	}
	ask := func(i, j int) answer {
		v, e, at := Play(programs[i], schedules[j])
		n, f := Contexts(schedules[j])
		return answer{v, e, at, n, f}
	}
	first := map[[2]int]answer{}
	for round := 0; round < 3; round++ {
		for i := range programs {
			for j := range schedules {
				for k := range programs {
					Play(programs[k], schedules[j])
					Check(programs[k])
					Search(programs[k], 2, 5)
					got := ask(i, j)
					want, asked := first[[2]int{i, j}]
					if asked && got != want {
						t.Fatalf("Play(%q, %.20q) = %+v, then %+v", programs[i], schedules[j], want, got)
					}
					first[[2]int{i, j}] = got
				}
			}
		}
	}
}

// walk plays a random schedule of a program, and compares each configuration with the oracle's.
func walk(t *testing.T, w *writer, program string, steps int, seen map[string]int) {
	t.Helper()
	o := newOracle(program)
	schedule := ""
	for i := 0; i <= steps; i++ {
		want := o.view()
		got, e, at := Play(program, schedule)
		if got != want || e != api.OK || at != 0 {
			t.Fatalf("Play(%q, %q) = %+v, %d, %d, want %+v", program, schedule, got, e, at, want)
		}
		note(seen, want)
		if i == 0 || i == steps || want.Enabled == "" {
			refuses(t, program, schedule, want.Enabled)
		}
		if want.Enabled == "" {
			return
		}
		letter := want.Enabled[w.below(len(want.Enabled))]
		schedule += string([]byte{letter})
		o.step(int(letter|32)-'a', letter < 'a', false)
	}
}

// refuses: each byte that is no step which can be made is the one at fault, also with others behind it.
func refuses(t *testing.T, program string, schedule string, enabled string) {
	t.Helper()
	for _, letter := range strings.Split("abcABCd@", "") {
		_, e, at := Play(program, schedule+letter)
		if strings.Contains(enabled, letter) {
			if e != api.OK || at != 0 {
				t.Fatalf("Play(%q, %q) = %d, %d", program, schedule+letter, e, at)
			}
			continue
		}
		v, e, at := Play(program, schedule+letter+"a?")
		if v != (api.View{}) || e != api.ErrStep || at != len(schedule) {
			t.Fatalf("Play(%q, %q) = %+v, %d, %d", program, schedule+letter+"a?", v, e, at)
		}
	}
}

func note(seen map[string]int, v api.View) {
	seen["all"]++
	if v.Race {
		seen["race"]++
	}
	if v.Dead {
		seen["dead"]++
	}
	if v.Enabled == "" && !v.Dead {
		seen["stopped"]++
	}
	for _, thread := range strings.Split(v.Text, "/")[2:] {
		if strings.Count(thread, ",") == 3 {
			seen["deep"]++
		}
	}
}

// P4: programs and schedules by a fixed rule.
func TestPlayIsTheOracle(t *testing.T) {
	w := &writer{seed: 1}
	seen := map[string]int{}
	for n := 0; n < 1000; n++ {
		program := w.program()
		if len(program) > api.MaxText {
			continue
		}
		if e, at := Check(program); e != api.OK {
			t.Fatalf("Check(%q) = %d, %d", program, e, at)
		}
		for k := 0; k < 2; k++ {
			walk(t, w, program, 30, seen)
		}
	}
	for _, what := range []string{"all", "race", "dead", "stopped", "deep"} {
		if seen[what] < 100 {
			t.Errorf("only %d configurations are %s", seen[what], what)
		}
	}
}
