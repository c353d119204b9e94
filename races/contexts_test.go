package races

import (
	"strings"
	"testing"

	"races/api"
)

// P5
func TestContexts(t *testing.T) {
	for _, c := range []struct {
		schedule string
		n        int
		e        api.Errno
	}{
		{"", 0, api.OK}, {"a", 1, api.OK}, {"A", 1, api.OK}, {"c", 1, api.OK}, {"aAbba", 3, api.OK}, {"aaAAaa", 1, api.OK}, {"abab", 4, api.OK},
		{"cbaCBA", 6, api.OK}, {"aBbCcA", 4, api.OK}, {"bAaB", 3, api.OK}, {strings.Repeat("aB", 100), 200, api.OK}, {strings.Repeat("b", 200), 1, api.OK},
		{"d", 0, api.ErrArg}, {"abcd", 0, api.ErrArg}, {"D", 0, api.ErrArg}, {"dab", 0, api.ErrArg}, {"a b", 0, api.ErrArg}, {"a\n", 0, api.ErrArg},
		{strings.Repeat("a", 199) + "d", 0, api.ErrArg}, {strings.Repeat("a", 201), 0, api.ErrLong}, {strings.Repeat("d", 201), 0, api.ErrLong},
		{strings.Repeat("a", 200) + "d", 0, api.ErrLong}, {strings.Repeat("c", 1000000), 0, api.ErrLong},
	} {
		n, e := Contexts(c.schedule)
		if n != c.n || e != c.e {
			t.Errorf("Contexts(%.30q) = %d, %d, want %d, %d", c.schedule, n, e, c.n, c.e)
		}
	}
}

func TestContextsEveryByte(t *testing.T) {
	for b := 0; b < 256; b++ {
		n, e := Contexts("ab" + string([]byte{byte(b)}))
		want, wantE := 0, api.ErrArg
		switch {
		case strings.IndexByte("bB", byte(b)) >= 0:
			want, wantE = 2, api.OK
		case strings.IndexByte("acAC", byte(b)) >= 0:
			want, wantE = 3, api.OK
		}
		if n != want || e != wantE {
			t.Errorf("byte %d: %d, %d, want %d, %d", b, n, e, want, wantE)
		}
	}
}
