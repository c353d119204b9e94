// Package play makes the steps of a program, and tells of the configurations to which they come.
package play

import (
	"races/api"
	"races/plan"
)

// Frame is at a line. Parameters that its procedure does not have are false.
type Frame struct {
	Line   int
	Params [api.MaxParams]bool
}

// Thread has frames, the last one is that of the procedure in which it is; it has ended if there are none.
type Thread struct {
	Count  int
	Frames [api.MaxFrames]Frame // those from Count on are zero, so that == tells whether two threads are at the same
}

// Config is a configuration. What the program does not have is zero; so == tells whether two are the same.
type Config struct {
	Shared  [api.MaxShared]bool
	Holders [api.MaxLocks]int // 0: the lock is free, 1: the first thread holds it, and so on
	Threads [api.MaxThreads]Thread
}

// Start answers the configuration at the beginning.
func Start(p plan.Program) Config {
	var c Config
	for i, number := range p.Threads {
		proc := p.Proc(number)
		if i < len(c.Threads) {
			c.Threads[i].push(Frame{Line: proc.Entry})
		}
	}
	return c
}

// thread answers one that has ended for a number that no thread has.
func (c Config) thread(i int) Thread {
	if i < 0 || i >= len(c.Threads) {
		return Thread{}
	}
	return c.Threads[i]
}

// frame answers the frame that has so many others above it, if there is one.
func (t Thread) frame(above int) (Frame, bool) {
	i := t.Count - 1 - above
	if i < 0 || i >= len(t.Frames) {
		return Frame{}, false
	}
	return t.Frames[i], true
}

// push tells whether there was room for one more frame.
func (t *Thread) push(f Frame) bool {
	if t.Count < 0 || t.Count >= len(t.Frames) {
		return false
	}
	t.Frames[t.Count] = f
	t.Count++
	return true
}

func (t *Thread) pop() {
	if t.Count < 1 || t.Count > len(t.Frames) {
		return
	}
	t.Count--
	t.Frames[t.Count] = Frame{}
}

func (t *Thread) setLast(f Frame) {
	if t.Count < 1 || t.Count > len(t.Frames) {
		return
	}
	t.Frames[t.Count-1] = f
}
