package races

import (
	"fmt"
	"regexp"
	"strings"

	"races/api"
)

// The oracle plays programs by the document's words, in another way than the program does: as a tree of nodes that are
// told from above what comes behind them, with EXPRs that are worked out by rewriting their texts.

type oracleNode struct {
	kind   string // a word, "=", "call" or "end"
	at     int
	target string
	name   string
	exprs  []string
	first  []*oracleNode
	second []*oracleNode
	next   *oracleNode
	proc   *oracleProc
}

type oracleProc struct {
	params []string
	body   []*oracleNode
	end    *oracleNode
}

type oracleFrame struct {
	node   *oracleNode
	params map[string]bool
}

type oracle struct {
	words   []string
	places  []int
	shared  []string
	locks   []string
	procs   map[string]*oracleProc
	threads []string

	truths  map[string]bool
	holders map[string]int
	frames  [][]*oracleFrame
}

var oracleToken = regexp.MustCompile(`[a-z]+|[^ \n]`)

func newOracle(program string) *oracle {
	o := &oracle{procs: map[string]*oracleProc{}, truths: map[string]bool{}, holders: map[string]int{}}
	for _, span := range oracleToken.FindAllStringIndex(program, -1) {
		o.words = append(o.words, program[span[0]:span[1]])
		o.places = append(o.places, span[0])
	}
	o.read()
	for _, name := range o.threads {
		f := o.frameOf(name)
		o.frames = append(o.frames, []*oracleFrame{f})
	}
	return o
}

func (o *oracle) pull() string {
	word := o.words[0]
	o.words = o.words[1:]
	o.places = o.places[1:]
	return word
}

// until pulls all up to a sign, and the sign.
func (o *oracle) until(sign string) []string {
	var list []string
	for word := o.pull(); word != sign; word = o.pull() {
		if word != "," {
			list = append(list, word)
		}
	}
	return list
}

func (o *oracle) read() {
	for len(o.words) > 0 {
		switch o.pull() {
		case "shared":
			o.shared = o.until(";")
		case "locks":
			o.locks = o.until(";")
		case "threads":
			o.threads = o.until(";")
		case "proc":
			o.readProc()
		}
	}
}

func (o *oracle) readProc() {
	p := &oracleProc{}
	o.procs[o.pull()] = p
	o.pull()
	p.params = o.until(")")
	body, end := o.readBlock(p)
	p.end = &oracleNode{kind: "end", at: end, proc: p}
	p.body = body
	link(p.body, p.end)
}

func (o *oracle) readBlock(p *oracleProc) ([]*oracleNode, int) {
	var list []*oracleNode
	o.pull()
	for o.words[0] != "}" {
		list = append(list, o.readStatement(p))
	}
	end := o.places[0]
	o.pull()
	return list, end
}

// exprsUntil pulls texts with "," between them, up to the sign that stands outside all brackets.
func (o *oracle) exprsUntil(sign string) []string {
	depth := 0
	list := []string{""}
	for {
		word := o.pull()
		switch {
		case depth == 0 && word == sign:
			if list[0] == "" {
				return nil
			}
			return list
		case depth == 0 && word == ",":
			list = append(list, "")
			continue
		case word == "(":
			depth++
		case word == ")":
			depth--
		}
		list[len(list)-1] += word + " "
	}
}

func (o *oracle) readStatement(p *oracleProc) *oracleNode {
	n := &oracleNode{at: o.places[0], proc: p}
	n.kind = o.pull()
	switch n.kind {
	case "if", "while":
		o.pull()
		n.exprs = o.exprsUntil(")")
		n.first, _ = o.readBlock(p)
		if n.kind == "if" && o.words[0] == "else" {
			o.pull()
			n.second, _ = o.readBlock(p)
		}
		return n
	case "assume", "return", "skip":
		n.exprs = o.exprsUntil(";")
		return n
	case "acquire", "release":
		n.name = o.until(";")[0]
		return n
	}
	word := n.kind
	if o.words[0] == "=" {
		o.pull()
		n.target = word
		n.kind = "="
		if o.words[1] != "(" || !regexp.MustCompile(`^[a-z]`).MatchString(o.words[0]) {
			n.exprs = o.exprsUntil(";")
			return n
		}
		word = o.pull()
	}
	n.kind = "call"
	n.name = word
	o.pull()
	n.exprs = o.exprsUntil(")")
	o.pull()
	return n
}

// link tells each node of a block what comes next behind it, if behind is what comes behind the block.
func link(list []*oracleNode, behind *oracleNode) {
	for i := len(list) - 1; i >= 0; i-- {
		n := list[i]
		n.next = behind
		if n.kind == "while" {
			link(n.first, n)
		} else {
			link(n.first, n.next)
			link(n.second, n.next)
		}
		behind = n
	}
}

func enter(list []*oracleNode, behind *oracleNode) *oracleNode {
	if len(list) == 0 {
		return behind
	}
	return list[0]
}

func (o *oracle) frameOf(proc string) *oracleFrame {
	p := o.procs[proc]
	f := &oracleFrame{node: enter(p.body, p.end), params: map[string]bool{}}
	for _, name := range p.params {
		f.params[name] = false
	}
	return f
}

func digit(b bool) string {
	if b {
		return "1"
	}
	return "0"
}

var rewrites = []struct {
	from *regexp.Regexp
	to   string
}{
	{regexp.MustCompile(`\(([01])\)`), "$1"},
	{regexp.MustCompile(`!0`), "1"},
	{regexp.MustCompile(`!1`), "0"},
	{regexp.MustCompile(`(^|[(&|])1&([01])`), "$1$2"},
	{regexp.MustCompile(`(^|[(&|])0&[01]`), "${1}0"},
	{regexp.MustCompile(`(^|[(|])0\|([01])($|[)|])`), "$1$2$3"},
	{regexp.MustCompile(`(^|[(|])1\|[01]($|[)|])`), "${1}1$2"},
}

func (o *oracle) workOut(expr string, f *oracleFrame, choice bool) bool {
	text := ""
	for _, word := range strings.Fields(expr) {
		switch {
		case word == "true":
			text += "1"
		case word == "false":
			text += "0"
		case word == "?":
			text += digit(choice)
		case word[0] >= 'a' && word[0] <= 'z':
			value, own := f.params[word]
			if !own {
				value = o.truths[word]
			}
			text += digit(value)
		default:
			text += word
		}
	}
	for len(text) > 1 {
		for _, r := range rewrites {
			text = r.from.ReplaceAllString(text, r.to)
		}
	}
	return text == "1"
}

func (o *oracle) give(f *oracleFrame, name string, value bool) {
	if _, own := f.params[name]; own {
		f.params[name] = value
	} else if name != "" {
		o.truths[name] = value
	}
}

// step makes a step if it can be made; with try it only tells whether it can.
func (o *oracle) step(thread int, choice bool, try bool) bool {
	if thread >= len(o.frames) || len(o.frames[thread]) == 0 {
		return false
	}
	frames := o.frames[thread]
	f := frames[len(frames)-1]
	n := f.node
	if choice && !strings.Contains(strings.Join(n.exprs, ""), "?") {
		return false
	}
	var values []bool
	for _, e := range n.exprs {
		values = append(values, o.workOut(e, f, choice))
	}
	holder := o.holders[n.name]
	if n.kind == "assume" && !values[0] ||
		n.kind == "acquire" && holder != 0 ||
		n.kind == "release" && holder != thread+1 ||
		n.kind == "call" && len(frames) == 4 {
		return false
	}
	if !try {
		o.make(thread, f, n, values)
	}
	return true
}

func (o *oracle) make(thread int, f *oracleFrame, n *oracleNode, values []bool) {
	frames := o.frames[thread]
	switch n.kind {
	case "call":
		g := o.frameOf(n.name)
		for i, name := range o.procs[n.name].params {
			g.params[name] = values[i]
		}
		o.frames[thread] = append(frames, g)
		return
	case "return", "end":
		o.frames[thread] = frames[:len(frames)-1]
		if len(frames) > 1 {
			below := frames[len(frames)-2]
			o.give(below, below.node.target, len(values) > 0 && values[0])
			below.node = below.node.next
		}
		return
	case "if":
		f.node = enter(n.second, n.next)
		if values[0] {
			f.node = enter(n.first, n.next)
		}
		return
	case "while":
		f.node = n.next
		if values[0] {
			f.node = enter(n.first, n)
		}
		return
	case "=":
		o.give(f, n.target, values[0])
	case "acquire":
		o.holders[n.name] = thread + 1
	case "release":
		o.holders[n.name] = 0
	}
	f.node = n.next
}

func (o *oracle) text() string {
	text := ""
	for _, name := range o.shared {
		text += digit(o.truths[name])
	}
	text += "/"
	for _, name := range o.locks {
		text += "-abc"[o.holders[name]:][:1]
	}
	for _, frames := range o.frames {
		var list []string
		for _, f := range frames {
			s := fmt.Sprintf("%d:", f.node.at)
			for _, name := range f.node.proc.params {
				s += digit(f.params[name])
			}
			list = append(list, s)
		}
		text += "/" + strings.Join(list, ",")
	}
	return text
}

// uses answers the shared truths that a thread's place reads, and the one it writes.
func (o *oracle) uses(thread int) (map[string]bool, string) {
	reads := map[string]bool{}
	frames := o.frames[thread]
	if len(frames) == 0 {
		return reads, ""
	}
	n := frames[len(frames)-1].node
	for _, word := range strings.Fields(strings.Join(n.exprs, " ")) {
		for _, name := range o.shared {
			if word == name {
				reads[name] = true
			}
		}
	}
	write := ""
	if n.kind == "=" {
		write = n.target
	}
	if (n.kind == "return" || n.kind == "end") && len(frames) > 1 {
		write = frames[len(frames)-2].node.target
	}
	for _, name := range o.shared {
		if name == write {
			return reads, write
		}
	}
	return reads, ""
}

func (o *oracle) race() bool {
	for i := range o.frames {
		for j := range o.frames {
			_, write := o.uses(i)
			reads, other := o.uses(j)
			if i != j && write != "" && (other == write || reads[write]) {
				return true
			}
		}
	}
	return false
}

func (o *oracle) view() api.View {
	v := api.View{Text: o.text(), Race: o.race()}
	waits := false
	for i, frames := range o.frames {
		for _, choice := range []bool{false, true} {
			if o.step(i, choice, true) {
				v.Enabled += letterOf(i, choice)
			}
		}
		waits = waits || len(frames) > 0 && frames[len(frames)-1].node.kind == "acquire"
	}
	v.Dead = waits && v.Enabled == ""
	return v
}

func letterOf(thread int, choice bool) string {
	if choice {
		return "ABC"[thread:][:1]
	}
	return "abc"[thread:][:1]
}
