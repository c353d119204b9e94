package play

import (
	"races/plan"
	"races/syntax"
)

// walker is a thread that makes a step. Its frames are apart from the configuration until the step is made.
type walker struct {
	program plan.Program
	config  Config
	frames  Thread
	holder  int // what stands in the configuration for a lock that the walker holds
}

// Step answers the configuration behind a step, or false if the step can't be made.
func Step(p plan.Program, c Config, thread int, choice bool) (Config, bool) {
	if thread < 0 || thread >= len(c.Threads) {
		return Config{}, false
	}
	frame, running := c.Threads[thread].frame(0)
	if !running {
		return Config{}, false
	}
	line := p.Line(frame.Line)
	if choice && !line.HasChoice {
		return Config{}, false
	}
	s := sight{shared: c.Shared, params: frame.Params, choice: choice}
	values := s.workOutAll(p.Nodes, line.Values)
	w := walker{program: p, config: c, frames: c.Threads[thread], holder: thread + 1}
	if !w.walk(line, values) {
		return Config{}, false
	}
	w.config.Threads[thread] = w.frames
	return w.config, true
}

// walk tells whether the step can be made; if not, the walker is of no more use.
func (w *walker) walk(line plan.Line, values []bool) bool {
	value := valueAt(values, 0)
	switch line.Kind {
	case syntax.CallProc:
		return w.call(line, values)
	case syntax.Return, syntax.End:
		w.giveBack(value)
		return true
	case syntax.If, syntax.While:
		w.branch(line, value)
		return true
	}
	if !w.act(line, value) {
		return false
	}
	w.goTo(line.Next)
	return true
}

// act does what a statement does ahead of going on to what comes next, and tells whether that can be done.
func (w *walker) act(line plan.Line, value bool) bool {
	switch line.Kind {
	case syntax.Assign:
		w.give(line.Target, value)
	case syntax.Assume:
		return value
	case syntax.Acquire:
		return w.pass(line.Lock, 0, w.holder)
	case syntax.Release:
		return w.pass(line.Lock, w.holder, 0)
	}
	return true
}

// pass hands a lock from one holder to another, and tells whether the first one held it.
func (w *walker) pass(lock int, from int, to int) bool {
	if lock < 0 || lock >= len(w.config.Holders) || w.config.Holders[lock] != from {
		return false
	}
	w.config.Holders[lock] = to
	return true
}

func (w *walker) branch(line plan.Line, value bool) {
	if value {
		w.goTo(line.Then)
	} else {
		w.goTo(line.Else)
	}
}

func (w *walker) call(line plan.Line, values []bool) bool {
	proc := w.program.Proc(line.Proc)
	f := Frame{Line: proc.Entry}
	for i := 0; i < proc.Params && i < len(f.Params); i++ {
		f.Params[i] = valueAt(values, i)
	}
	return w.frames.push(f)
}

func (w *walker) giveBack(value bool) {
	w.frames.pop()
	below, found := w.frames.frame(0)
	if !found {
		return
	}
	caller := w.program.Line(below.Line)
	w.give(caller.Target, value)
	w.goTo(caller.Next)
}

// give sets a truth, as the last frame sees it.
func (w *walker) give(to plan.Truth, value bool) {
	if to.Number < 0 {
		return
	}
	if to.Owner == plan.OfAll && to.Number < len(w.config.Shared) {
		w.config.Shared[to.Number] = value
	}
	f, found := w.frames.frame(0)
	if found && to.Owner == plan.OfFrame && to.Number < len(f.Params) {
		f.Params[to.Number] = value
		w.frames.setLast(f)
	}
}

func (w *walker) goTo(line int) {
	f, found := w.frames.frame(0)
	if found {
		f.Line = line
		w.frames.setLast(f)
	}
}
