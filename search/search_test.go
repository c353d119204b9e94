package search

import (
	"testing"

	"races/api"
	"races/check"
	"races/plan"
)

const twice = "shared x; locks m; proc p() { x = ?; acquire m; acquire m; } threads p, p;"

func searcherOf(t *testing.T, text string, contexts int) searcher {
	t.Helper()
	outline, e, at := check.Read(text)
	if e != api.OK {
		t.Fatalf("%q: %d, %d", text, e, at)
	}
	return begin(plan.Make(outline), contexts)
}

func TestProgram(t *testing.T) {
	for _, c := range []struct {
		text           string
		contexts, most int
		report         api.Report
		e              api.Errno
	}{
		{twice, 1, 0, api.Report{Race: true, Points: 1}, api.OK},
		{twice, 1, 60, api.Report{Race: true, Whole: true, Points: 9}, api.OK},
		{"locks m; proc p() { acquire m; acquire m; } threads p;", 1, 60, api.Report{Dead: true, DeadBy: "a", Whole: true, Points: 2}, api.OK},
		{"proc p() { } threads p;", 1, 2, api.Report{Whole: true, Points: 2}, api.OK},
		{twice, 0, 0, api.Report{}, api.ErrArg},
		{twice, 1, 61, api.Report{}, api.ErrArg},
		{"", 0, 61, api.Report{}, api.ErrSyntax},
	} {
		r, e := Program(c.text, c.contexts, c.most)
		if r != c.report || e != c.e {
			t.Errorf("Program(%q, %d, %d) = %+v, %d, want %+v, %d", c.text, c.contexts, c.most, r, e, c.report, c.e)
		}
	}
}

// Each point is seen once, by a schedule as long as the round's number, and fresh in that round alone.
func TestRounds(t *testing.T) {
	s := searcherOf(t, twice, 6)
	round := 0
	for ; !s.report.Whole; round++ {
		for _, f := range s.fresh {
			if len(f.by) != round {
				t.Errorf("round %d saw a point first by %q", round, f.by)
			}
		}
		if s.report.Points != len(s.seen) {
			t.Errorf("%d points, %d were seen", s.report.Points, len(s.seen))
		}
		if !s.makeRound() {
			t.Fatalf("too many points in round %d", round)
		}
	}
	met := map[point]bool{}
	for _, p := range s.seen {
		if met[p] || (p.last == nobody) != (p.contexts == 0) || p.contexts > 6 {
			t.Errorf("%+v", p)
		}
		met[p] = true
	}
	if round != 4 || len(s.fresh) != 0 {
		t.Errorf("%d rounds, %d fresh points", round, len(s.fresh))
	}
}

// A round behind one that saw nothing new sees nothing new either.
func TestRoundBehindTheLast(t *testing.T) {
	s := searcherOf(t, "proc p() { skip; } threads p, p;", 2)
	if !s.goByRounds(api.MaxSteps) || !s.report.Whole {
		t.Fatalf("%+v", s.report)
	}
	before := s.report
	if !s.makeRound() || s.report != before {
		t.Errorf("%+v, behind one more round %+v", before, s.report)
	}
}
