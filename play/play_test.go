package play

import (
	"strings"
	"testing"

	"races/api"
	"races/check"
	"races/plan"
)

func planOf(t *testing.T, text string) plan.Program {
	t.Helper()
	o, e, at := check.Read(text)
	if e != api.OK {
		t.Fatalf("%q: %d, %d", text, e, at)
	}
	return plan.Make(o)
}

func after(t *testing.T, p plan.Program, schedule string) Config {
	t.Helper()
	c, wrong, made := follow(p, schedule)
	if !made {
		t.Fatalf("%q: step %d can't be made", schedule, wrong)
	}
	return c
}

// Configurations to which different schedules come are the same if their texts are: what is left behind is wiped out.
func TestSameTextSameConfig(t *testing.T) {
	p := planOf(t, "shared x; locks m; proc f(a, b) { acquire m; a = !a; release m; return a; } proc p(c) { if (?) { f(true, c); } while (?) { c = f(c, true); } x = c; c = false; } threads p, p;")
	byText := map[string]Config{}
	list := []string{""}
	for turn := 0; turn < 9; turn++ {
		var longer []string
		for _, schedule := range list {
			c := after(t, p, schedule)
			text := Text(p, c)
			before, met := byText[text]
			if met && before != c {
				t.Fatalf("%q comes to %+v, another to %+v, both are %q", schedule, c, before, text)
			}
			if met {
				continue
			}
			byText[text] = c
			for _, letter := range strings.Split(Enabled(p, c), "") {
				longer = append(longer, schedule+letter)
			}
		}
		list = longer
	}
	if len(byText) < 100 {
		t.Errorf("only %d configurations", len(byText))
	}
}

// A step changes nothing of what it is given, and one that can't be made answers nothing.
func TestStepLeavesTheConfigAlone(t *testing.T) {
	p := planOf(t, "shared x; locks m; proc p(a) { acquire m; x = !x; a = p(?); } threads p, p;")
	for _, schedule := range []string{"", "a", "aa", "aaA"} {
		c := after(t, p, schedule)
		before := c
		for thread := -1; thread <= 3; thread++ {
			for _, choice := range []bool{false, true} {
				next, made := Step(p, c, thread, choice)
				if c != before {
					t.Fatalf("%q: a step of %d changed what it was given", schedule, thread)
				}
				if !made && next != (Config{}) {
					t.Errorf("%q: no step of %d, but %+v", schedule, thread, next)
				}
			}
		}
	}
}

func TestStepOfNoThread(t *testing.T) {
	p := planOf(t, "proc p() { } threads p;")
	c := Start(p)
	for _, thread := range []int{-1 << 63, -1, 1, 2, 3, 1<<63 - 1} {
		if _, made := Step(p, c, thread, false); made {
			t.Errorf("thread %d made a step", thread)
		}
	}
	if _, made := Step(p, c, 0, false); !made {
		t.Error("the thread made no step")
	}
}

func TestFramesOfAThread(t *testing.T) {
	var th Thread
	if _, found := th.frame(0); found {
		t.Error("a frame in no frames")
	}
	th.pop()
	th.setLast(Frame{Line: 7})
	if th != (Thread{}) {
		t.Errorf("%+v", th)
	}
	for i := 0; i < api.MaxFrames; i++ {
		if !th.push(Frame{Line: i}) {
			t.Errorf("no room for frame %d", i)
		}
	}
	full := th
	if th.push(Frame{Line: 9}) || th != full {
		t.Errorf("room for one frame too many: %+v", th)
	}
	for i := 0; i < api.MaxFrames; i++ {
		f, found := th.frame(i)
		if !found || f.Line != api.MaxFrames-1-i {
			t.Errorf("frame with %d above it: %+v, %v", i, f, found)
		}
	}
	if _, found := th.frame(api.MaxFrames); found {
		t.Error("one frame too many")
	}
	for i := 0; i < api.MaxFrames; i++ {
		th.pop()
	}
	if th != (Thread{}) {
		t.Errorf("%+v is left", th)
	}
}

func TestProgram(t *testing.T) {
	v, e, at := Program("shared x; proc p() { x = true; } threads p, p;", "a")
	if v != (api.View{Text: "1//31:/21:", Enabled: "ab"}) || e != api.OK || at != 0 {
		t.Errorf("%+v, %d, %d", v, e, at)
	}
	v, e, at = Program("shared x; proc p() { x = true; } threads p, p;", "abbb")
	if v != (api.View{}) || e != api.ErrStep || at != 3 {
		t.Errorf("%+v, %d, %d", v, e, at)
	}
}
