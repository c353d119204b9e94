package check

import (
	"races/api"
	"races/syntax"
)

// counts is how many names of each kind there are so far; params are those of the last procedure.
type counts struct {
	shared, locks, procs, params, threads int
}

func firstTooMany(names []syntax.Name) (int, bool) {
	var c counts
	for _, n := range names {
		c.add(n.Role)
		if c.tooMany() {
			return n.At, true
		}
	}
	return 0, false
}

func (c *counts) add(role syntax.Role) {
	switch role {
	case syntax.Shared:
		c.shared++
	case syntax.Lock:
		c.locks++
	case syntax.Proc:
		c.procs++
		c.params = 0
	case syntax.Param:
		c.params++
	case syntax.Thread:
		c.threads++
	}
}

func (c *counts) tooMany() bool {
	return c.shared > api.MaxShared || c.locks > api.MaxLocks || c.procs > api.MaxProcs ||
		c.params > api.MaxParams || c.threads > api.MaxThreads
}
