package play

import (
	"races/plan"
	"races/syntax"
)

// Dead tells whether a configuration is a deadlock.
func Dead(p plan.Program, c Config) bool {
	waits := false
	for i := 0; i < len(c.Threads); i++ {
		if atAcquire(p, c.thread(i)) {
			waits = true
		}
	}
	return waits && Enabled(p, c) == ""
}

func atAcquire(p plan.Program, t Thread) bool {
	frame, running := t.frame(0)
	line := p.Line(frame.Line)
	return running && line.Kind == syntax.Acquire
}
