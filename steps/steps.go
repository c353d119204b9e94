// Package steps reads and writes the bytes of schedules, each of which is a step.
package steps

import "races/api"

// Read answers which thread a byte lets make a step, and with which choice; beside false it is no thread's.
func Read(b byte) (int, bool, bool) {
	small := int(b) - 'a'
	if small >= 0 && small < api.MaxThreads {
		return small, false, true
	}
	capital := int(b) - 'A'
	if capital >= 0 && capital < api.MaxThreads {
		return capital, true, true
	}
	return 0, false, false
}

// Letter answers the byte of a step, as a text, or an empty one if there is no such thread.
func Letter(thread int, choice bool) string {
	const small, capital = "abc", "ABC"
	if thread < 0 || thread >= len(small) || thread >= len(capital) {
		return ""
	}
	if choice {
		return capital[thread : thread+1]
	}
	return small[thread : thread+1]
}

// Contexts answers how many contexts a schedule has.
func Contexts(schedule string) (int, api.Errno) {
	if len(schedule) > api.MaxSchedule {
		return 0, api.ErrLong
	}
	count := 0
	last := -1
	for i := 0; i < len(schedule); i++ {
		thread, _, known := Read(schedule[i])
		if !known {
			return 0, api.ErrArg
		}
		if thread != last {
			count++
		}
		last = thread
	}
	return count, api.OK
}
