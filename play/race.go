package play

import (
	"races/api"
	"races/plan"
	"races/syntax"
)

// touch is what the step from a thread's place does with the shared truths, whether or not it can be made.
type touch struct {
	reads  [api.MaxShared]bool
	writes [api.MaxShared]bool
}

// Race tells whether a configuration is a race.
func Race(p plan.Program, c Config) bool {
	for i := 0; i < len(c.Threads); i++ {
		for j := 0; j < i; j++ {
			one := touchOf(p, c.thread(i))
			other := touchOf(p, c.thread(j))
			if spoils(one, other) || spoils(other, one) {
				return true
			}
		}
	}
	return false
}

// spoils tells whether one writes what the other one uses.
func spoils(one touch, other touch) bool {
	for i := 0; i < api.MaxShared; i++ {
		if one.writes[i] && (other.writes[i] || other.reads[i]) {
			return true
		}
	}
	return false
}

func touchOf(p plan.Program, t Thread) touch {
	var result touch
	frame, running := t.frame(0)
	if !running {
		return result
	}
	line := p.Line(frame.Line)
	result.reads = line.Reads
	to := writtenBy(p, t, line)
	if to.Owner == plan.OfAll && to.Number >= 0 && to.Number < len(result.writes) {
		result.writes[to.Number] = true
	}
	return result
}

// writtenBy answers the truth that gets a value in the step from the line. What a CALL gives back is written by the
// step that gives it back, not by the CALL.
func writtenBy(p plan.Program, t Thread, line plan.Line) plan.Truth {
	if line.Kind == syntax.Assign {
		return line.Target
	}
	below, found := t.frame(1)
	if found && (line.Kind == syntax.Return || line.Kind == syntax.End) {
		caller := p.Line(below.Line)
		return caller.Target
	}
	return plan.Truth{}
}
