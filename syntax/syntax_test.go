package syntax

import (
	"fmt"
	"strings"
	"testing"

	"races/token"
)

func cut(t *testing.T, text string) []token.Token {
	t.Helper()
	tokens, place, ok := token.Cut(text)
	if !ok {
		t.Fatalf("%q has no token at %d", text, place)
	}
	return tokens
}

var vocabulary = strings.Fields("shared locks proc threads if else while assume acquire release return skip true false x ; , = ! & | ? ( ) { }")

var samples = []string{
	"proc p ( ) { } threads p ;",
	"shared x , y ; locks m , n ; proc p ( a , b ) { x = ! ( a & ? ) | b ; x = p ( a , ! b ) ; } proc q ( ) { q ( ) ; } threads p , q ;",
	"proc p ( ) { if ( true ) { skip ; } else { return ; } while ( ? ) { return x ; } if ( x ) { } acquire m ; release m ; assume x ; } threads p ;",
	"proc p ( ) { if ( ( ( ( ( x ) ) ) ) ) { } while ( x ) { while ( x ) { if ( x ) { if ( x ) { if ( x ) { x = x ; } else { } } } } } } threads p ;",
	"proc p ( ) { while ( x ) { while ( x ) { while ( x ) { x = p ( ( x ) ) ; x = ( ! ( x ) ) ; p ( ( x ) , x ) ; } } } } threads p ;",
	"proc p ( ) { if ( x ) { if ( x ) { if ( x ) { if ( x ) { if ( x ) { x = x ; } } } } } } threads p ;",
}

// compare reads a row of words by Read and by the oracle.
func compare(t *testing.T, o *oracle, words []string) {
	t.Helper()
	text := strings.Join(words, " ") + " "
	tokens := cut(t, text)
	outline, place, ok := Read(tokens, len(text))
	fault, right := o.fault(tokens)
	want := 0
	if !right {
		want = len(text)
		if fault < len(tokens) {
			want = tokens[fault].At
		}
	}
	if ok != right || place != want {
		t.Errorf("Read(%q) = %d, %v, want %d, %v", text, place, ok, want, right)
	}
	if !ok && (outline.Names != nil || outline.Calls != nil || outline.Statements != nil || outline.Nodes != nil) {
		t.Errorf("Read(%q) answers an outline beside a fault", text)
	}
}

func TestSamplesAreRight(t *testing.T) {
	for _, s := range samples {
		if _, place, ok := Read(cut(t, s), len(s)); !ok || place != 0 {
			t.Errorf("Read(%q) = %d, %v", s, place, ok)
		}
	}
}

// Each sample with one token left out, put in, or put in another's place, and cut off anywhere.
func TestReadIsTheGrammar(t *testing.T) {
	o := newOracle()
	for _, s := range samples {
		words := strings.Fields(s)
		for i := 0; i <= len(words); i++ {
			head := words[:i:i]
			compare(t, o, head)
			for _, w := range vocabulary {
				compare(t, o, append(append(head, w), words[i:]...))
				if i < len(words) {
					compare(t, o, append(append(head, w), words[i+1:]...))
				}
			}
			if i < len(words) {
				compare(t, o, append(head, words[i+1:]...))
			}
		}
	}
}

// Every row of up to three tokens at the beginning of a program and of a block, and behind each program.
func TestReadShortRows(t *testing.T) {
	o := newOracle()
	for _, head := range []string{"", "proc p ( ) {", "proc p ( ) { x =", "proc p ( ) { } threads p ;"} {
		for _, a := range vocabulary {
			for _, b := range vocabulary {
				for _, c := range vocabulary {
					compare(t, o, append(strings.Fields(head), a, b, c))
				}
			}
		}
	}
}

func TestReadDepth(t *testing.T) {
	for _, c := range []struct {
		text  string
		place int
		ok    bool
	}{
		{"proc p(){x=(((((x)))));}threads p;", 0, true},
		{"proc p(){x=((((((x))))));}threads p;", 16, false},
		{"proc p(){p(((((x)))));}threads p;", 0, true},
		{"proc p(){p((((((x))))));}threads p;", 15, false},
		{"proc p(){if(x){if(x){if(x){if(x){if(x){skip;}}}}}}threads p;", 0, true},
		{"proc p(){if(x){if(x){if(x){if(x){if(x){if(x){}}}}}}}threads p;", 41, false},
		{"proc p(){if(x){if(x){if(x){if(x){if(x){while(x){}}}}}}}threads p;", 44, false},
		{"proc p(){if(x){if(x){if(x){if(x){if(x){if", 41, false},
		{"proc p(){if(x){if(x){if(x){if(x){if(x){while;", 44, false},
		{"proc p(){if(x){if(x){if(x){if(x){if(x){x=p();", 42, false},
		{"proc p(){if(x){if(x){if(x){if(x){if(x){p();", 40, false},
		{"proc p(){if(x){if(x){if(x){if(x){if(x){x=!(x);", 42, false},
		{"proc p(){if(x){if(x){if(x){if(x){if(x){}else{x=x;}}}}}}threads p;", 0, true},
		{"proc p(){if(x){if(x){if(x){if(x){if(x){}else{x=(x);}}}}}}threads p;", 47, false},
		{"proc p(){x=(((((x)))));x=(((((x)))));}proc q(){x=(((((x)))));}threads p;", 0, true},
	} {
		_, place, ok := Read(cut(t, c.text), len(c.text))
		if place != c.place || ok != c.ok {
			t.Errorf("Read(%q) = %d, %v, want %d, %v", c.text, place, ok, c.place, c.ok)
		}
	}
}

func TestReadManyNots(t *testing.T) {
	text := "proc p(a){a=" + strings.Repeat("!", 400) + "a;}threads p;"
	if _, place, ok := Read(cut(t, text), len(text)); !ok || place != 0 {
		t.Errorf("Read of 400 nots = %d, %v", place, ok)
	}
}

func TestOutline(t *testing.T) {
	text := "shared x; locks m; proc p(a) { x = q(a, ?); acquire m; } proc q(b, c) { p(b); release m; p(); assume c; } threads q;"
	o, _, ok := Read(cut(t, text), len(text))
	if !ok {
		t.Fatal("not read")
	}
	names := []Name{
		{"x", 7, Shared, -1}, {"m", 16, Lock, -1}, {"p", 24, Proc, 0}, {"a", 26, Param, 0}, {"x", 31, Truth, 0}, {"q", 35, Callee, 0},
		{"a", 37, Truth, 0}, {"m", 52, LockUse, 0}, {"q", 62, Proc, 1}, {"b", 64, Param, 1}, {"c", 67, Param, 1}, {"p", 72, Callee, 1},
		{"b", 74, Truth, 1}, {"m", 86, LockUse, 1}, {"p", 89, Callee, 1}, {"c", 101, Truth, 1}, {"q", 114, Thread, 1},
	}
	calls := []Call{{"q", 35, 2}, {"p", 72, 1}, {"p", 89, 0}}
	if len(o.Names) != len(names) || len(o.Calls) != len(calls) {
		t.Fatalf("outline %v", o)
	}
	for i := range names {
		if o.Names[i] != names[i] {
			t.Errorf("name %d is %v, want %v", i, o.Names[i], names[i])
		}
	}
	for i := range calls {
		if o.Calls[i] != calls[i] {
			t.Errorf("call %d is %v, want %v", i, o.Calls[i], calls[i])
		}
	}
}

func TestStatements(t *testing.T) {
	text := "shared x;locks m;proc p(a){x=a;x=p(a);p(?);if(a){skip;}else{while(x){acquire m;}}release m;}proc q(){assume x;return;return x;}threads p;"
	o, _, ok := Read(cut(t, text), len(text))
	if !ok {
		t.Fatal("not read")
	}
	own, other := Block{0, -1, false}, Block{1, -1, false}
	wants := []struct {
		kind         Kind
		text         string
		in           Block
		target, name string
		values       int
	}{
		{Assign, "x=a;", own, "x", "", 1}, {CallProc, "x=p(a)", own, "x", "p", 1}, {CallProc, "p(?)", own, "", "p", 1}, {If, "if(a)", own, "", "", 1},
		{Skip, "skip", Block{0, 3, false}, "", "", 0}, {While, "while(x)", Block{0, 3, true}, "", "", 1}, {Acquire, "acquire m", Block{0, 5, false}, "", "m", 0},
		{Release, "release m", own, "", "m", 0}, {End, "}proc q", own, "", "", 0},
		{Assume, "assume x", other, "", "", 1}, {Return, "return;", other, "", "", 0}, {Return, "return x;", other, "", "", 1}, {End, "}threads", other, "", "", 0},
	}
	if len(o.Statements) != len(wants) {
		t.Fatalf("%d statements", len(o.Statements))
	}
	word := func(i int) string {
		if i < 0 {
			return ""
		}
		return o.Names[i].Word
	}
	for i, want := range wants {
		s := o.Statements[i]
		if s.Kind != want.kind || s.At != strings.Index(text, want.text) || s.In != want.in || word(s.Target) != want.target || word(s.Name) != want.name || len(s.Values) != want.values {
			t.Errorf("statement %d is %+v, want %+v", i, s, want)
		}
	}
}

// show writes an EXPR with a bracket around each part.
func show(o Outline, i int) string {
	n := o.Nodes[i]
	switch n.Sign {
	case True:
		return "1"
	case False:
		return "0"
	case Choice:
		return "?"
	case Named:
		return o.Names[n.Name].Word
	case Not:
		return "!" + show(o, n.Right)
	}
	return fmt.Sprintf("(%s%c%s)", show(o, n.Left), "&|"[n.Sign-And], show(o, n.Right))
}

func TestExprs(t *testing.T) {
	for _, c := range []struct{ values, want string }{
		{"true", "1"}, {"a,false", "a 0"}, {"!?", "!?"}, {"!!(a)", "!!a"}, {"a|b|c", "((a|b)|c)"}, {"a&b&c", "((a&b)&c)"}, {"a|b&c", "(a|(b&c))"},
		{"a&b|c", "((a&b)|c)"}, {"!a&b", "(!a&b)"}, {"!(a&b)", "!(a&b)"}, {"a&(b|c)&!d", "((a&(b|c))&!d)"}, {"a|b,((c)),?&?", "(a|b) c (?&?)"}, {"", ""},
	} {
		text := "proc p(){skip;assume x;p(" + c.values + ");}threads p;"
		o, _, ok := Read(cut(t, text), len(text))
		if !ok {
			t.Fatalf("%q is not read", text)
		}
		var list []string
		first := 1
		for _, e := range o.Statements[2].Values {
			if e.First != first || e.Last < e.First {
				t.Errorf("%q: %+v begins not at %d", c.values, e, first)
			}
			for i := e.First; i <= e.Last; i++ {
				n := o.Nodes[i]
				if n.Sign >= Not && (n.Right < e.First || n.Right >= i) || n.Sign >= And && (n.Left < e.First || n.Left >= n.Right) {
					t.Errorf("%q: node %d is %+v", c.values, i, n)
				}
			}
			first = e.Last + 1
			list = append(list, show(o, e.Last))
		}
		if got := strings.Join(list, " "); got != c.want || first != len(o.Nodes) {
			t.Errorf("%q is read as %q", c.values, got)
		}
	}
}
