// Package races: programs of threads, searched for races and deadlocks: see DOC.md.
package races

import (
	"races/api"
	"races/check"
	"races/play"
	"races/search"
	"races/steps"
)

// Check tells what is wrong with a program (P3).
func Check(program string) (api.Errno, int) { return check.Program(program) }

// Play plays a schedule (P4).
func Play(program string, schedule string) (api.View, api.Errno, int) {
	return play.Program(program, schedule)
}

// Contexts tells how many contexts a schedule has (P5).
func Contexts(schedule string) (int, api.Errno) { return steps.Contexts(schedule) }

// Search looks for races and deadlocks (P6).
func Search(program string, contexts int, steps int) (api.Report, api.Errno) {
	return search.Program(program, contexts, steps)
}
