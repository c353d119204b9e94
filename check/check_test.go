package check

import (
	"strings"
	"testing"

	"races/api"
)

const plain = "proc p() { } threads p;"

type wrong struct {
	program string
	at      int
}

func expect(t *testing.T, program string, e api.Errno, at int) {
	t.Helper()
	gotE, gotAt := Program(program)
	if gotE != e || gotAt != at {
		t.Errorf("Program(%.100q) = %d, %d, want %d, %d", program, gotE, gotAt, e, at)
	}
}

func expectAll(t *testing.T, e api.Errno, list []wrong) {
	t.Helper()
	for _, w := range list {
		expect(t, w.program, e, w.at)
	}
}

func TestRight(t *testing.T) {
	for _, s := range []string{
		plain,
		"shared x; proc p() { x = true; } threads p, p;",
		"shared x; locks m; proc p() { acquire m; x = !x; release m; } threads p, p;",
		"locks m, n; proc p() { acquire m; acquire n; release n; release m; } proc q() { acquire n; acquire m; release m; release n; } threads p, q;",
		"shared x; proc p() { while (?) { } x = p(); } threads p;",
		"proc p(a) { q(a, a); } proc q(a, b) { a = p(b); return a; } threads q;",
	} {
		expect(t, s, api.OK, 0)
	}
}

func TestLong(t *testing.T) {
	expect(t, plain+strings.Repeat("\n", 500-len(plain)), api.OK, 0)
	expect(t, plain+strings.Repeat("\n", 501-len(plain)), api.ErrLong, 0)
	expect(t, strings.Repeat("$", 501), api.ErrLong, 0)
	expect(t, strings.Repeat("$", 500), api.ErrToken, 0)
	expect(t, strings.Repeat("a", 5000000), api.ErrLong, 0)
	expect(t, strings.Repeat(" ", 500), api.ErrSyntax, 500)
	expect(t, strings.Repeat(" ", 499)+"$", api.ErrToken, 499)
}

func TestToken(t *testing.T) {
	expectAll(t, api.ErrToken, []wrong{
		{"proc p() { x = 1; }", 15}, {"\t", 0}, {"proc p()\r\n{ }", 8}, {"proc P() { } threads p;", 5},
		{"proc abcdefghi() { } threads p;", 5}, {"proc p() { } threads p;\x00", 23}, {"proc p() { // }", 11}, {"\xff", 0},
	})
}

func TestSyntax(t *testing.T) {
	expectAll(t, api.ErrSyntax, []wrong{
		{"", 0}, {" \n", 2}, {"proc p() { } threads p", 22}, {"proc p() { } threads p \n", 24}, {plain + " ;", 24}, {plain + plain, 23},
		{"threads p;", 0}, {"proc p() { } proc", 17}, {"proc p(skip) { }", 7}, {"proc p() { if", 13}, {"proc p() { } else", 13},
	})
}

func TestMany(t *testing.T) {
	full := "shared a, b, c, d; locks e, f, g; proc p(h, i, j) { } proc q(h, i, j) { } proc r(h) { } proc s() { } threads p, p, p;"
	expect(t, full, api.OK, 0)
	expectAll(t, api.ErrMany, []wrong{
		{"shared a, b, c, d, e; " + plain, 19}, {"shared a, b, c, d, e, f; " + plain, 19},
		{"locks a, b, c, d; " + plain, 15},
		{"proc a(){}proc b(){}proc c(){}proc d(){}proc e(){}threads a;", 45},
		{"proc p(a,b,c,d){}threads p;", 13}, {"proc p(a,b,c){}proc q(a,b,c,d){}threads p;", 28},
		{"proc p(){}threads p,p,p,p;", 24}, {"proc p(){}threads p,p,p,p,p;", 24},
		{"proc p(a,b,c,d){}threads p,p,p,p;", 13}, {"shared a,b,c,d,e;locks f,g,h,i;" + plain, 15},
	})
}

func TestNameGivenTwice(t *testing.T) {
	expectAll(t, api.ErrName, []wrong{
		{"shared x, x; " + plain, 10}, {"locks m, n, m; " + plain, 12}, {"shared x; locks x; " + plain, 16},
		{"shared p; " + plain, 15}, {"locks p; " + plain, 14}, {"proc p() { } " + plain, 18},
		{"proc p(a, b, a) { } threads p;", 13}, {"proc p(p) { } threads p;", 7}, {"locks m; proc p(m) { } threads p;", 16},
		{"shared x; proc p(x) { } threads p;", 17}, {"proc p(q) { } proc q() { } threads p;", 7},
		{"proc p(q, q) { } proc q() { } threads p;", 7}, {"proc p(a, r) { } proc p() { } proc r() { } threads p;", 10},
		{"proc p() { z = p(true); } proc p() { } threads z;", 31},
	})
	expect(t, "proc p(a, b) { } proc q(b, a) { } threads p;", api.OK, 0)
}

func TestNameMisused(t *testing.T) {
	head := "shared x; locks m; proc q(b) { } proc p(a) { "
	tail := " } threads p;"
	for _, c := range []struct {
		before, after, good string
	}{
		{"", " = true;", "a x"}, {"", " = q(a);", "a x"}, {"a = ", ";", "a x"}, {"a = a | a & !(", ");", "a x"},
		{"q(", ");", "a x"}, {"a = q(", ");", "a x"}, {"if (", ") { }", "a x"}, {"while (a & ", ") { }", "a x"},
		{"assume ", ";", "a x"}, {"return ", ";", "a x"}, {"if (a) { } else { return ", "; }", "a x"},
		{"acquire ", ";", "m"}, {"release ", ";", "m"}, {"", "(a);", "p q"}, {"x = ", "(a);", "p q"},
	} {
		for _, name := range []string{"a", "b", "m", "p", "q", "x", "zz"} {
			program := head + c.before + name + c.after + tail
			if strings.Contains(" "+c.good+" ", " "+name+" ") {
				expect(t, program, api.OK, 0)
			} else {
				expect(t, program, api.ErrName, len(head)+len(c.before))
			}
		}
	}
	expectAll(t, api.ErrName, []wrong{
		{"proc p() { } threads q;", 21}, {"shared x; proc p() { } threads p, x;", 34}, {"locks m; proc p() { } threads m;", 30},
		{"proc p(a) { } threads a;", 22}, {"proc p() { y = z; } threads p;", 11}, {"proc p(a) { a = z & y; } threads q;", 16},
		{"proc p(a) { b = a; } proc q(b) { } threads p;", 12}, {"proc p() { a = ?; } proc q(a) { } threads p;", 11},
	})
}

func TestArity(t *testing.T) {
	expect(t, "proc p() { p(); q(?); r(?, ?); s(?, ?, ?); } proc q(a) { } proc r(a, b) { } proc s(a, b, c) { } threads p;", api.OK, 0)
	expectAll(t, api.ErrArity, []wrong{
		{"proc p(a) { p(); } threads p;", 12}, {"proc p() { p(?); } threads p;", 11}, {"proc p(a, b, c) { p(a, b, c, a); } threads p;", 18},
		{"proc p(a) { a = p((a), a); } threads p;", 16}, {"proc p(a) { p(a); q(a); p(); } proc q() { } threads p;", 18},
		{"proc p(a) { a = q(); p(); } proc q(a, b) { } threads p;", 16}, {"proc p() { } proc q(a) { p(a); } threads q;", 25},
		{"proc p() { while (?) { if (?) { } else { q(?); } } } proc q() { } threads p;", 41},
		{"proc p() { q(?, ?, ?, ?, ?); } proc q(a, b, c) { } threads p;", 11},
	})
}

// Each program has the error named and all that are named behind it: the one named first is the answer.
func TestOrder(t *testing.T) {
	arity := "proc p() { p(?); }"
	misused := arity + " proc q() { z = ?; }"
	twice := misused + " proc q() { }"
	many := twice + " threads p, p, p, p;"
	expect(t, arity+" threads p;", api.ErrArity, 11)
	expect(t, misused+" threads p;", api.ErrName, 30)
	expect(t, twice+" threads p;", api.ErrName, 44)
	expect(t, many, api.ErrMany, 69)
	expect(t, many+";", api.ErrSyntax, len(many))
	expect(t, many+";$", api.ErrToken, len(many)+1)
	expect(t, many+";$"+strings.Repeat(" ", 500), api.ErrLong, 0)
}
