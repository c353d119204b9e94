package plan

import (
	"races/api"
	"races/syntax"
)

// Make plans a program in which no error is.
func Make(o syntax.Outline) Program {
	var p Program
	for _, n := range o.Names {
		p.addName(o, n)
	}
	for _, n := range o.Nodes {
		truth := truthOf(o.Names, n.Name)
		p.Nodes = append(p.Nodes, Node{Sign: n.Sign, Truth: truth, Left: n.Left, Right: n.Right})
	}
	for i, s := range o.Statements {
		line := p.lineOf(o, i, s)
		p.Lines = append(p.Lines, line)
	}
	return p
}

func (p *Program) addName(o syntax.Outline, n syntax.Name) {
	switch n.Role {
	case syntax.Shared:
		p.Shared++
	case syntax.Lock:
		p.Locks++
	case syntax.Proc:
		params := paramsOf(o.Names, n.Proc)
		entry := entered(o.Statements, syntax.Block{Proc: n.Proc, Owner: -1})
		p.Procs = append(p.Procs, Proc{Params: params, Entry: entry})
	case syntax.Thread:
		proc := numberOf(o.Names, n.Word, syntax.Proc)
		p.Threads = append(p.Threads, proc)
	}
}

func (p *Program) lineOf(o syntax.Outline, i int, s syntax.Statement) Line {
	line := Line{Kind: s.Kind, At: s.At}
	line.Params = paramsOf(o.Names, s.In.Proc)
	line.Next = comesNext(o.Statements, s.In, i+1)
	line.Target = truthOf(o.Names, s.Target)
	word := wordOf(o.Names, s.Name)
	switch s.Kind {
	case syntax.If:
		line.Then = entered(o.Statements, syntax.Block{Proc: s.In.Proc, Owner: i})
		line.Else = entered(o.Statements, syntax.Block{Proc: s.In.Proc, Owner: i, Else: true})
	case syntax.While:
		line.Then = entered(o.Statements, syntax.Block{Proc: s.In.Proc, Owner: i})
		line.Else = line.Next
	case syntax.Acquire, syntax.Release:
		line.Lock = numberOf(o.Names, word, syntax.Lock)
	case syntax.CallProc:
		line.Proc = numberOf(o.Names, word, syntax.Proc)
	}
	for _, e := range s.Values {
		line.Values = append(line.Values, e)
		p.look(&line, e)
	}
	return line
}

// look notes what an EXPR that is worked out in a step from the line reads, and whether it has a choice.
func (p *Program) look(line *Line, e syntax.Expr) {
	for i := e.First; i >= 0 && i <= e.Last && i < len(p.Nodes); i++ {
		n := p.Nodes[i]
		if n.Sign == syntax.Choice {
			line.HasChoice = true
		}
		if n.Truth.Owner == OfAll && n.Truth.Number >= 0 && n.Truth.Number < api.MaxShared {
			line.Reads[n.Truth.Number] = true
		}
	}
}
