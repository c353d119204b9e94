package play

import (
	"races/plan"
	"races/steps"
)

// Enabled answers the bytes of all steps that can be made, thread by thread, the small letter first.
func Enabled(p plan.Program, c Config) string {
	letters := ""
	for i := 0; i < len(c.Threads); i++ {
		letters += letterIfMade(p, c, i, false)
		letters += letterIfMade(p, c, i, true)
	}
	return letters
}

func letterIfMade(p plan.Program, c Config, thread int, choice bool) string {
	_, made := Step(p, c, thread, choice)
	if !made {
		return ""
	}
	return steps.Letter(thread, choice)
}
