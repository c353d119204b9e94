package steps

import (
	"strings"
	"testing"

	"races/api"
)

func TestReadAndLetter(t *testing.T) {
	for b := 0; b < 256; b++ {
		thread, choice, known := Read(byte(b))
		text := string([]byte{byte(b)})
		if known != strings.Contains("abcABC", text) {
			t.Errorf("byte %d: %v", b, known)
		}
		if known && (Letter(thread, choice) != text || choice != (b < 'a')) {
			t.Errorf("byte %d is read as %d, %v", b, thread, choice)
		}
		if !known && (thread != 0 || choice) {
			t.Errorf("byte %d, no step, is read as %d, %v", b, thread, choice)
		}
	}
	for _, thread := range []int{-1 << 63, -1, 3, 1<<63 - 1} {
		if Letter(thread, false) != "" || Letter(thread, true) != "" {
			t.Errorf("thread %d has a letter", thread)
		}
	}
}

// Every schedule of up to six steps has one context more than threads change in it.
func TestContextsOfShortSchedules(t *testing.T) {
	list := []string{""}
	for size := 0; size <= 6; size++ {
		var longer []string
		for _, s := range list {
			want := 0
			for i := range s {
				if i == 0 || !strings.EqualFold(s[i:i+1], s[i-1:i]) {
					want++
				}
			}
			if n, e := Contexts(s); n != want || e != api.OK {
				t.Fatalf("Contexts(%q) = %d, %d, want %d", s, n, e, want)
			}
			for _, letter := range []string{"a", "B", "b", "C"} {
				longer = append(longer, s+letter)
			}
		}
		list = longer
	}
}

func TestContextsErrors(t *testing.T) {
	for _, c := range []struct {
		schedule string
		e        api.Errno
	}{
		{strings.Repeat("a", 201), api.ErrLong}, {strings.Repeat(" ", 201), api.ErrLong}, {strings.Repeat(" ", 200), api.ErrArg},
		{strings.Repeat("a", 200), api.OK}, {"abcd", api.ErrArg}, {"a,b", api.ErrArg},
	} {
		if n, e := Contexts(c.schedule); e != c.e || e != api.OK && n != 0 {
			t.Errorf("Contexts(%.20q) = %d, %d, want %d", c.schedule, n, e, c.e)
		}
	}
}
