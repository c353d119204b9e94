package races

import (
	"strings"
	"testing"

	"races/api"
)

// none is the length of a schedule that there is not.
const none = -1

// found: what a search answers, with the lengths of the shortest schedules in place of these.
type found struct {
	race, dead int
	whole      bool
	points     int
}

// finds: the search answers this, and its schedules play to what they show.
func finds(t *testing.T, program string, contexts int, steps int, want found) {
	t.Helper()
	r, e := Search(program, contexts, steps)
	got := found{lengthOf(r.Race, r.RaceBy), lengthOf(r.Dead, r.DeadBy), r.Whole, r.Points}
	if e != api.OK || got != want {
		t.Errorf("Search(%.120q, %d, %d) = %+v, %d, want %+v", program, contexts, steps, r, e, want)
	}
	shows(t, program, contexts, steps, r)
}

func lengthOf(seen bool, by string) int {
	if !seen && by == "" {
		return none
	}
	return len(by)
}

// shows: P7, the schedules of a report play, within the contexts and the steps, to a race and to a deadlock.
func shows(t *testing.T, program string, contexts int, steps int, r api.Report) {
	t.Helper()
	race, e, _ := Play(program, r.RaceBy)
	dead, f, _ := Play(program, r.DeadBy)
	if e != api.OK || f != api.OK || r.Race && !race.Race || r.Dead && !dead.Dead {
		t.Errorf("Search(%.120q, %d, %d) = %+v, which plays to %+v, %d and %+v, %d", program, contexts, steps, r, race, e, dead, f)
	}
	n, _ := Contexts(r.RaceBy)
	k, _ := Contexts(r.DeadBy)
	if n > contexts || k > contexts || len(r.RaceBy) > steps || len(r.DeadBy) > steps {
		t.Errorf("Search(%.120q, %d, %d) = %+v: %d and %d contexts", program, contexts, steps, r, n, k)
	}
}

// searchFails: the answer is an error, and nothing else.
func searchFails(t *testing.T, program string, contexts int, steps int, want api.Errno) {
	t.Helper()
	r, e := Search(program, contexts, steps)
	if r != (api.Report{}) || e != want {
		t.Errorf("Search(%.120q, %d, %d) = %+v, %d, want %d", program, contexts, steps, r, e, want)
	}
}

func TestSearchExamples(t *testing.T) {
	r, e := Search(one, 1, 0)
	if r != (api.Report{Race: true, Points: 1}) || e != api.OK {
		t.Errorf("one: %+v, %d", r, e)
	}
	r, e = Search(two, 6, 60)
	if r.Race || r.Dead || !r.Whole || e != api.OK {
		t.Errorf("two: %+v, %d", r, e)
	}
	finds(t, three, 1, 60, found{none, none, true, 11})
	r, e = Search(three, 2, 60)
	if !r.Dead || len(r.DeadBy) != 2 || r.Race || r.RaceBy != "" || e != api.OK {
		t.Errorf("three: %+v, %d", r, e)
	}
	shows(t, three, 2, 60, r)
}

// With one context, one has the points: the beginning; a row of two steps of each thread.
func TestSearchRounds(t *testing.T) {
	finds(t, one, 1, 0, found{0, none, false, 1})
	finds(t, one, 1, 1, found{0, none, false, 3})
	finds(t, one, 1, 2, found{0, none, false, 5})
	finds(t, one, 1, 3, found{0, none, true, 5})
	finds(t, one, 1, 4, found{0, none, true, 5})
	finds(t, one, 1, 60, found{0, none, true, 5})
	// In round 0 nothing is whole, also where no step can be made.
	stuck := "proc p() { assume false; } threads p;"
	finds(t, stuck, 6, 0, found{none, none, false, 1})
	finds(t, stuck, 6, 1, found{none, none, true, 1})
	finds(t, stuck, 6, 60, found{none, none, true, 1})
	deadAtOnce := "locks m; proc p() { acquire m; acquire m; } threads p;"
	finds(t, deadAtOnce, 1, 0, found{none, none, false, 1})
	finds(t, deadAtOnce, 1, 1, found{none, 1, false, 2})
	finds(t, deadAtOnce, 1, 2, found{none, 1, true, 2})
	// The steps bound the length of what is shown.
	late := "shared x; locks m; proc p() { skip; skip; x = true; acquire m; acquire m; } threads p, p;"
	finds(t, late, 2, 3, found{none, none, false, 13})
	finds(t, late, 2, 4, found{4, none, false, 21})
}

// A race and a deadlock end the search, in the round that sees the later one of both: all its points are seen.
func TestSearchEndsWithBoth(t *testing.T) {
	both := "shared x; locks m; proc p() { x = ?; acquire m; acquire m; } proc q() { assume x & !x; } threads p, q;"
	finds(t, both, 1, 0, found{0, none, false, 1})
	finds(t, both, 1, 1, found{0, none, false, 3})
	finds(t, both, 1, 2, found{0, 2, false, 5})
	finds(t, both, 1, 3, found{0, 2, false, 5})
	finds(t, both, 6, 60, found{0, 2, false, 5})
	// Without the race it goes on to the round that sees nothing new.
	finds(t, strings.ReplaceAll(both, "x & !x", "false"), 6, 60, found{none, 2, true, 5})
	// The deadlock first, then the race; the round has points behind both.
	deadFirst := "shared x; locks m; proc p() { if (?) { acquire m; acquire m; } else { skip; x = true; skip; skip; } } proc q() { assume x; } threads p, q;"
	finds(t, deadFirst, 1, 1, found{none, none, false, 3})
	finds(t, deadFirst, 1, 2, found{2, 2, false, 5})
	finds(t, deadFirst, 1, 60, found{2, 2, false, 5})
	later := strings.ReplaceAll(deadFirst, "skip; x", "skip; skip; skip; x")
	finds(t, later, 1, 2, found{none, 2, false, 5})
	finds(t, later, 1, 3, found{none, 2, false, 6})
	finds(t, later, 1, 4, found{4, 2, false, 7})
	finds(t, later, 1, 60, found{4, 2, false, 7})
}

func TestSearchFindsNothing(t *testing.T) {
	finds(t, "proc p() { } threads p;", 1, 60, found{none, none, true, 2})
	finds(t, "proc p() { while (true) { } } threads p;", 1, 60, found{none, none, true, 2})
	finds(t, two, 1, 60, found{none, none, true, 9})
	// Threads that are stuck, but not at an acquire; an acquire beside a thread that goes on for ever.
	finds(t, "locks m; proc p() { release m; } proc q() { q(); } threads p, q;", 1, 60, found{none, none, true, 4})
	finds(t, "locks m; proc p() { acquire m; acquire m; } proc q() { while (true) { } } threads p, q;", 1, 60, found{none, none, true, 3})
}

// A point is not its configuration alone: one configuration, as often as it has last threads and numbers of contexts.
func TestSearchPoints(t *testing.T) {
	loop := "proc p() { while (true) { } } threads p"
	for threads := 1; threads <= 3; threads++ {
		for contexts := 1; contexts <= 6; contexts++ {
			program := loop + strings.Repeat(", p", threads-1) + ";"
			rounds := contexts
			if threads == 1 {
				rounds = 1
			}
			for steps := 0; steps <= 8; steps++ {
				finds(t, program, contexts, steps, found{none, none, steps > rounds, 1 + threads*min(rounds, steps)})
			}
		}
	}
	// The two orders of ended threads come to one configuration by two last threads.
	ends := "proc p() { } threads p, p;"
	finds(t, ends, 1, 60, found{none, none, true, 3})
	finds(t, ends, 2, 60, found{none, none, true, 5})
	finds(t, ends, 6, 60, found{none, none, true, 5})
	// A choice that changes nothing comes to the same point.
	finds(t, "proc p() { if (?) { } } threads p;", 1, 60, found{none, none, true, 3})
	finds(t, "proc p() { while (?) { } } threads p;", 1, 60, found{none, none, true, 4})
}

// turns is a program in which two threads go by turns, each turn a context; the one that has the last turn waits then for a
// lock that it holds, when the other one has ended.
func turns(count int) string {
	text := []string{"x = true; ", "assume x; y = true; ", "assume y; x = false; ", "assume !x; y = false; ", "assume !y; x = true; ", "assume x; y = true; ", "assume y; x = false; "}
	p, q := "", ""
	for i := 0; i < count; i++ {
		if i%2 == 0 {
			p += text[i]
		} else {
			q += text[i]
		}
	}
	if count%2 == 0 {
		q += "acquire m; acquire m; "
	} else {
		p += "acquire m; acquire m; "
	}
	return "shared x, y; locks m; proc p() { " + p + "} proc q() { " + q + "} threads p, q;"
}

// The contexts bound what is seen, from 1 to MaxContexts. (With one turn the other thread still needs a context to end.)
func TestSearchContexts(t *testing.T) {
	for count := 1; count <= 7; count++ {
		for contexts := 1; contexts <= 6; contexts++ {
			r, e := Search(turns(count), contexts, 60)
			enough := contexts >= max(count, 2)
			if e != api.OK || r.Dead != enough || r.Dead && len(r.DeadBy) != 2*count+1 || r.Whole == (r.Race && r.Dead) {
				t.Errorf("%d turns, %d contexts: %+v, %d", count, contexts, r, e)
			}
			shows(t, turns(count), contexts, 60, r)
		}
	}
}

// straight is a program of one thread, with a deadlock that comes behind exactly so many steps.
func straight(steps int) string {
	return "locks m;proc p(){acquire m;" + strings.Repeat("skip;", steps-1) + "acquire m;}threads p;"
}

// The steps bound what is seen, from 0 to MaxSteps; a search is whole only by a round of its own that sees nothing new.
func TestSearchSteps(t *testing.T) {
	for _, length := range []int{1, 2, 58, 59, 60, 61, 62} {
		for _, steps := range []int{0, 1, 2, 58, 59, 60} {
			want := found{none, none, steps > length, 1 + min(steps, length)}
			if steps >= length {
				want.dead = length
			}
			finds(t, straight(length), 1, steps, want)
			finds(t, straight(length), 6, steps, want)
		}
	}
}

func TestSearchArguments(t *testing.T) {
	const most, least = 1<<63 - 1, -1 << 63
	for _, program := range []string{one, two, "proc p() { } threads p;", wide(601, false, "p")} {
		for _, contexts := range []int{least, -1, 0, 1, 2, 5, 6, 7, 8, 60, most} {
			for _, steps := range []int{least, -2, -1, 0, 1, 6, 59, 60, 61, 62, most} {
				if contexts < 1 || contexts > 6 || steps < 0 || steps > 60 {
					searchFails(t, program, contexts, steps, api.ErrArg)
				} else if _, e := Search(program, contexts, steps); e == api.ErrArg {
					t.Errorf("Search(%.60q, %d, %d) is ErrArg", program, contexts, steps)
				}
			}
		}
	}
}

// The errors of Check come first.
func TestSearchErrorsOfCheck(t *testing.T) {
	for _, c := range answers {
		for _, n := range []int{-1, 0, 1, 6, 7, 60, 61} {
			for _, k := range []int{-1, 0, 1, 6, 7, 60, 61} {
				if c.e != api.OK {
					searchFails(t, c.program, n, k, c.e)
				}
			}
		}
	}
}

// wide is a program of a thread p with so many points. It makes seven truths free, one after the other: a skip behind n of
// them has 2 to the n points. Then it ends, and has 271 points without the skips, or it waits for ever, and has 383.
// Beside it may be a thread q, which waits for ever and reads x.
func wide(points int, waits bool, threads string) string {
	free := []string{"x=?;", "y=?;", "z=?;", "w=?;", "a=?;", "b=?;", "c=?;"}
	body := ""
	rest := points - 271
	if waits {
		body = "acquire m;acquire m;"
		rest = points - 383
	}
	for n := 7; n >= 0; n-- {
		body = strings.Repeat("skip;", rest>>n) + body
		rest -= rest >> n << n
		if n > 0 {
			body = free[n-1] + body
		}
	}
	return "shared x,y,z,w;locks m;proc p(a,b,c){" + body + "}proc q(){assume x&!x;}threads " + threads + ";"
}

// MaxPoints points are not too many, one more is; those of rounds that are not made don't count.
func TestSearchTooManyPoints(t *testing.T) {
	for points := 271; points <= 600; points++ {
		finds(t, wide(points, false, "p"), 1, 60, found{none, none, true, points})
	}
	for points := 601; points <= 1000; points += 7 {
		searchFails(t, wide(points, false, "p"), 1, 60, api.ErrBig)
		searchFails(t, wide(points, false, "p"), 6, 60, api.ErrBig)
	}
	// Too many points count ahead of the steps. The 600 and the 601 points are there behind 13 steps, of which the last one sees 16.
	finds(t, wide(600, false, "p"), 1, 12, found{none, none, false, 584})
	finds(t, wide(600, false, "p"), 1, 13, found{none, none, false, 600})
	finds(t, wide(600, false, "p"), 1, 14, found{none, none, true, 600})
	finds(t, wide(601, false, "p"), 1, 12, found{none, none, false, 585})
	searchFails(t, wide(601, false, "p"), 1, 13, api.ErrBig)
	searchFails(t, wide(601, false, "p"), 1, 14, api.ErrBig)
}

// Too many points count ahead of a race and a deadlock that the same round sees, but not if a round ahead of it saw both.
func TestSearchTooManyPointsOrBoth(t *testing.T) {
	finds(t, wide(600, true, "p"), 1, 60, found{none, 13, true, 600})
	finds(t, wide(600, true, "p,q"), 1, 60, found{1, 13, false, 600})
	finds(t, wide(600, true, "q,p"), 6, 13, found{1, 13, false, 600})
	for points := 601; points < 640; points++ {
		searchFails(t, wide(points, true, "p"), 1, 60, api.ErrBig)
		searchFails(t, wide(points, true, "p,q"), 1, 60, api.ErrBig)
	}
	early := strings.Replace(wide(2001, false, "p,q"), "{", "{if(?){acquire m;acquire m;}", 1)
	finds(t, early, 1, 60, found{1, 2, false, 6})
	searchFails(t, strings.Replace(early, "p,q", "p", 1), 1, 60, api.ErrBig)
}

// P2: the same call again, behind each other one, answers the same.
func TestSearchKeepsNothing(t *testing.T) {
	type call struct {
		program         string
		contexts, steps int
	}
	var calls []call
	for _, program := range []string{one, two, three, four, turns(3), wide(600, true, "p,q"), wide(601, false, "p"), "", "proc p(a) { p(); } threads p;"} {
		calls = append(calls, call{program, 2, 60}, call{program, 1, 2}, call{program, 0, 0})
	}
	type reply struct {
		r api.Report
		e api.Errno
	}
	ask := func(c call) reply {
		r, e := Search(c.program, c.contexts, c.steps)
		return reply{r, e}
	}
	first := map[call]reply{}
	for _, c := range calls {
		first[c] = ask(c)
	}
	for i := len(calls) - 1; i >= 0; i-- {
		for _, other := range calls {
			Play(other.program, "ab")
			Check(other.program)
			if got := ask(other); got != first[other] {
				t.Fatalf("Search of %+v = %+v, then %+v", other, first[other], got)
			}
			if got := ask(calls[i]); got != first[calls[i]] {
				t.Fatalf("Search of %+v = %+v, then %+v", calls[i], first[calls[i]], got)
			}
		}
	}
}

// noLess: P7, with more contexts or more steps nothing is unseen, and no shortest schedule becomes longer.
func noLess(t *testing.T, program string, less api.Report, more api.Report) {
	t.Helper()
	if less.Race && (!more.Race || len(more.RaceBy) > len(less.RaceBy)) || less.Dead && (!more.Dead || len(more.DeadBy) > len(less.DeadBy)) {
		t.Errorf("%q: %+v, with more %+v", program, less, more)
	}
}

// P7: programs by a fixed rule, each with all numbers of contexts.
func TestSearchWithMore(t *testing.T) {
	w := &writer{seed: 7}
	compared := 0
	for n := 0; n < 300; n++ {
		program := drawn(w)
		var fewer []api.Report
		for contexts := 1; contexts <= 6; contexts++ {
			var row []api.Report
			for _, steps := range []int{0, 1, 2, 3, 5, 8, 13, 60} {
				r, e := Search(program, contexts, steps)
				if e != api.OK {
					break
				}
				shows(t, program, contexts, steps, r)
				if len(row) > 0 {
					ahead := row[len(row)-1]
					noLess(t, program, ahead, r)
					if r.Points < ahead.Points || ahead.Whole && r != ahead {
						t.Errorf("%q, %d contexts: %+v, with %d steps %+v", program, contexts, ahead, steps, r)
					}
				}
				if len(row) < len(fewer) {
					noLess(t, program, fewer[len(row)], r)
					compared++
				}
				row = append(row, r)
			}
			fewer = row
		}
	}
	if compared < 5000 {
		t.Errorf("only %d searches were compared", compared)
	}
}

// P7: where a search is whole, no schedule of so many contexts, however long, comes to what it did not see; and none that is
// shorter than those that it shows comes to that.
func TestSearchWholeMissesNothing(t *testing.T) {
	w := &writer{seed: 11}
	whole := 0
	for n := 0; n < 300; n++ {
		program := drawn(w)
		contexts := 1 + w.below(6)
		r, e := Search(program, contexts, 60)
		if e != api.OK {
			continue
		}
		if r.Whole {
			whole++
		}
		for k := 0; k < 5; k++ {
			missesNothing(t, w, program, contexts, r)
		}
	}
	if whole < 200 {
		t.Errorf("only %d searches are whole", whole)
	}
}

// missesNothing walks up to the longest schedule of so many contexts that can be played.
func missesNothing(t *testing.T, w *writer, program string, contexts int, r api.Report) {
	t.Helper()
	schedule := ""
	for len(schedule) < 200 {
		v, _, _ := Play(program, schedule)
		if v.Race && !(r.Race && len(r.RaceBy) <= len(schedule)) && (r.Whole || r.Race) || v.Dead && !(r.Dead && len(r.DeadBy) <= len(schedule)) && (r.Whole || r.Dead) {
			t.Fatalf("Search(%q, %d, 60) = %+v, but %q plays to %+v", program, contexts, r, schedule, v)
		}
		var on []string
		for _, letter := range strings.Split(v.Enabled, "") {
			if n, _ := Contexts(schedule + letter); n <= contexts {
				on = append(on, letter)
			}
		}
		if len(on) == 0 {
			return
		}
		schedule += w.oneOf(on)
	}
}
