package syntax

import "races/token"

// Read answers the outline of a program whose text has the given length, or, beside false, the place of the first
// token with which no program begins.
func Read(tokens []token.Token, length int) (Outline, int, bool) {
	p := parser{tokens: tokens, proc: -1}
	p.program()
	if !p.failed {
		return Outline{Names: p.names, Calls: p.calls, Statements: p.statements, Nodes: p.nodes}, 0, true
	}
	if p.next < 0 || p.next >= len(tokens) {
		return Outline{}, length, false
	}
	return Outline{}, tokens[p.next].At, false
}

func (p *parser) program() {
	if p.accept("shared") {
		p.takeNames(Shared)
		p.take(";")
	}
	if p.accept("locks") {
		p.takeNames(Lock)
		p.take(";")
	}
	p.procedure()
	for p.sees("proc") {
		p.procedure()
	}
	p.take("threads")
	p.takeNames(Thread)
	p.take(";")
	p.takeEnd()
}

func (p *parser) procedure() {
	p.take("proc")
	p.proc++
	p.takeName(Proc)
	p.enter("(")
	if !p.sees(")") {
		p.takeNames(Param)
	}
	p.leave(")")
	own := Block{Proc: p.proc, Owner: -1}
	end := p.block(own)
	p.add(Statement{Kind: End, At: end, In: own, Target: -1, Name: -1})
}

// block answers the place of its `}`. It goes on only while nothing has failed: then each statement takes a token or
// fails.
func (p *parser) block(in Block) int {
	p.enter("{")
	for !p.failed && !p.sees("}") {
		p.statement(in)
	}
	end := p.ahead(0)
	p.leave("}")
	return end.At
}

func (p *parser) statement(in Block) {
	t := p.ahead(0)
	s := Statement{At: t.At, In: in, Target: -1, Name: -1}
	switch t.Text {
	case "if":
		p.branch(s)
	case "while":
		p.loop(s)
	case "assume":
		p.assume(s)
	case "acquire":
		s.Kind = Acquire
		p.lockUse(s, t.Text)
	case "release":
		s.Kind = Release
		p.lockUse(s, t.Text)
	case "return":
		p.giveBack(s)
	case "skip":
		p.skip(s)
	default:
		p.assignOrCall(s)
	}
}

func (p *parser) branch(s Statement) {
	p.take("if")
	s.Kind = If
	p.condition(&s)
	owner := p.add(s)
	p.block(Block{Proc: s.In.Proc, Owner: owner})
	if p.accept("else") {
		p.block(Block{Proc: s.In.Proc, Owner: owner, Else: true})
	}
}

func (p *parser) loop(s Statement) {
	p.take("while")
	s.Kind = While
	p.condition(&s)
	owner := p.add(s)
	p.block(Block{Proc: s.In.Proc, Owner: owner})
}

func (p *parser) condition(s *Statement) {
	p.enter("(")
	p.value(s)
	p.leave(")")
}

func (p *parser) assume(s Statement) {
	p.take("assume")
	s.Kind = Assume
	p.value(&s)
	p.take(";")
	p.add(s)
}

func (p *parser) lockUse(s Statement, word string) {
	p.take(word)
	s.Name = p.takeName(LockUse)
	p.take(";")
	p.add(s)
}

func (p *parser) giveBack(s Statement) {
	p.take("return")
	s.Kind = Return
	if !p.sees(";") {
		p.value(&s)
	}
	p.take(";")
	p.add(s)
}

func (p *parser) skip(s Statement) {
	p.take("skip")
	s.Kind = Skip
	p.take(";")
	p.add(s)
}

func (p *parser) assignOrCall(s Statement) {
	s.Kind = CallProc
	if p.seesCall() {
		p.call(&s)
	} else {
		s.Target = p.takeName(Truth)
		p.take("=")
		p.assigned(&s)
	}
	p.take(";")
	p.add(s)
}

func (p *parser) assigned(s *Statement) {
	if p.seesCall() {
		p.call(s)
		return
	}
	s.Kind = Assign
	p.value(s)
}

func (p *parser) call(s *Statement) {
	name := p.ahead(0)
	s.Name = p.takeName(Callee)
	p.enter("(")
	if !p.sees(")") {
		p.values(s)
	}
	p.leave(")")
	p.calls = append(p.calls, Call{Word: name.Text, At: name.At, Values: len(s.Values)})
}

func (p *parser) values(s *Statement) {
	p.value(s)
	for p.accept(",") {
		p.value(s)
	}
}
