package play

import (
	"strconv"

	"races/plan"
	"races/steps"
)

// Text answers the text of a configuration.
func Text(p plan.Program, c Config) string {
	text := ""
	for i := 0; i < p.Shared && i < len(c.Shared); i++ {
		text += bit(c.Shared[i])
	}
	text += "/"
	for i := 0; i < p.Locks && i < len(c.Holders); i++ {
		text += holderText(c.Holders[i])
	}
	for i := 0; i < len(p.Threads); i++ {
		text += "/"
		text += framesText(p, c.thread(i))
	}
	return text
}

func bit(value bool) string {
	if value {
		return "1"
	}
	return "0"
}

func holderText(holder int) string {
	if holder == 0 {
		return "-"
	}
	return steps.Letter(holder-1, false)
}

func framesText(p plan.Program, t Thread) string {
	text := ""
	for i := 0; i < t.Count && i < len(t.Frames); i++ {
		if i > 0 {
			text += ","
		}
		text += frameText(p, t.Frames[i])
	}
	return text
}

func frameText(p plan.Program, f Frame) string {
	line := p.Line(f.Line)
	text := strconv.Itoa(line.At) + ":"
	for i := 0; i < line.Params && i < len(f.Params); i++ {
		text += bit(f.Params[i])
	}
	return text
}
