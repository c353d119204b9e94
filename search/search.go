// Package search looks for races and deadlocks in all schedules of so many contexts and steps.
package search

import (
	"races/api"
	"races/check"
	"races/plan"
)

// Program searches a program, with schedules of at most so many contexts and steps.
func Program(text string, contexts int, most int) (api.Report, api.Errno) {
	outline, e, _ := check.Read(text)
	if e != api.OK {
		return api.Report{}, e
	}
	if contexts < 1 || contexts > api.MaxContexts || most < 0 || most > api.MaxSteps {
		return api.Report{}, api.ErrArg
	}
	s := begin(plan.Make(outline), contexts)
	if !s.goByRounds(most) {
		return api.Report{}, api.ErrBig
	}
	return s.report, api.OK
}

// goByRounds answers false if a round sees too many points. Round 0 has been made by begin.
func (s *searcher) goByRounds(most int) bool {
	for round := 1; round <= most && !s.ended(); round++ {
		if !s.makeRound() {
			return false
		}
	}
	return true
}

// ended tells whether no round has to be made behind the last one, whatever its number is.
func (s *searcher) ended() bool {
	return s.report.Race && s.report.Dead || s.report.Whole
}
