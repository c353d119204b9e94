package search

import (
	"races/api"
	"races/plan"
	"races/play"
	"races/steps"
)

// nobody is the last thread of a point to which no step was made.
const nobody = -1

// point is a point as the document has it: two are the same if == says so.
type point struct {
	contexts int
	last     int // the thread that made the last step
	config   play.Config
}

// sighting is a point, and the schedule by which it was seen first. The rounds go from shorter schedules to longer ones,
// so that no shorter one comes to the point.
type sighting struct {
	point point
	by    string
}

// searcher has seen the points of some rounds.
type searcher struct {
	program  plan.Program
	contexts int // a schedule may have at most so many
	seen     []point
	fresh    []sighting // the points that the last round saw, and none ahead of it
	report   api.Report
}

// begin answers a searcher that has made round 0.
func begin(p plan.Program, contexts int) searcher {
	s := searcher{program: p, contexts: contexts}
	s.see(point{last: nobody, config: play.Start(p)}, "")
	return s
}

// makeRound looks behind the fresh points alone: what comes behind the other ones was seen by the rounds ahead. It
// answers false if the round sees too many points.
func (s *searcher) makeRound() bool {
	ahead := s.fresh
	s.fresh = nil
	for _, from := range ahead {
		s.lookBehind(from)
		if len(s.seen) > api.MaxPoints {
			return false
		}
	}
	s.report.Whole = len(s.fresh) == 0
	return true
}

// lookBehind sees all points that are one step behind one.
func (s *searcher) lookBehind(from sighting) {
	for thread := 0; thread < api.MaxThreads; thread++ {
		s.tryStep(from, thread, false)
		s.tryStep(from, thread, true)
	}
}

// tryStep sees the point behind a step, if the step can be made within the contexts and no schedule came to it before.
func (s *searcher) tryStep(from sighting, thread int, choice bool) {
	contexts := from.point.contexts
	if thread != from.point.last {
		contexts++
	}
	if contexts > s.contexts {
		return
	}
	config, made := play.Step(s.program, from.point.config, thread, choice)
	p := point{contexts: contexts, last: thread, config: config}
	if !made || s.hasSeen(p) {
		return
	}
	s.see(p, from.by+steps.Letter(thread, choice))
}

func (s *searcher) hasSeen(p point) bool {
	for i := 0; i < len(s.seen); i++ {
		if s.seen[i] == p {
			return true
		}
	}
	return false
}

// see takes in a point that was not seen before. Of the races and of the deadlocks the first one has a shortest schedule.
func (s *searcher) see(p point, by string) {
	s.seen = append(s.seen, p)
	s.fresh = append(s.fresh, sighting{point: p, by: by})
	s.report.Points = len(s.seen)
	if !s.report.Race && play.Race(s.program, p.config) {
		s.report.Race = true
		s.report.RaceBy = by
	}
	if !s.report.Dead && play.Dead(s.program, p.config) {
		s.report.Dead = true
		s.report.DeadBy = by
	}
}
