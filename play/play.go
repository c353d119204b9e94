package play

import (
	"races/api"
	"races/check"
	"races/plan"
	"races/steps"
)

// Program plays a schedule of a program from the beginning, and answers what the configuration is to which it comes.
func Program(text string, schedule string) (api.View, api.Errno, int) {
	outline, e, at := check.Read(text)
	if e != api.OK {
		return api.View{}, e, at
	}
	if len(schedule) > api.MaxSchedule {
		return api.View{}, api.ErrLong, 0
	}
	p := plan.Make(outline)
	c, wrong, made := follow(p, schedule)
	if !made {
		return api.View{}, api.ErrStep, wrong
	}
	return viewOf(p, c), api.OK, 0
}

// follow answers the configuration to which a schedule comes, or, beside false, the number of the first step that can't
// be made.
func follow(p plan.Program, schedule string) (Config, int, bool) {
	c := Start(p)
	for i := 0; i < len(schedule); i++ {
		thread, choice, known := steps.Read(schedule[i])
		if !known {
			return Config{}, i, false
		}
		next, made := Step(p, c, thread, choice)
		if !made {
			return Config{}, i, false
		}
		c = next
	}
	return c, 0, true
}

func viewOf(p plan.Program, c Config) api.View {
	var v api.View
	v.Text = Text(p, c)
	v.Enabled = Enabled(p, c)
	v.Race = Race(p, c)
	v.Dead = Dead(p, c)
	return v
}
