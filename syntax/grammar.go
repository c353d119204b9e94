package syntax

import "races/token"

// Read answers the outline of a program whose text has the given length, or, beside false, the place of the first
// token with which no program begins.
func Read(tokens []token.Token, length int) (Outline, int, bool) {
	p := parser{tokens: tokens, proc: -1}
	p.program()
	if !p.failed {
		return Outline{Names: p.names, Calls: p.calls}, 0, true
	}
	if p.next < 0 || p.next >= len(tokens) {
		return Outline{}, length, false
	}
	return Outline{}, tokens[p.next].At, false
}

func (p *parser) program() {
	if p.accept("shared") {
		p.takeNames(Shared)
		p.take(";")
	}
	if p.accept("locks") {
		p.takeNames(Lock)
		p.take(";")
	}
	p.procedure()
	for p.sees("proc") {
		p.procedure()
	}
	p.take("threads")
	p.takeNames(Thread)
	p.take(";")
	p.takeEnd()
}

func (p *parser) procedure() {
	p.take("proc")
	p.proc++
	p.takeName(Proc)
	p.enter("(")
	if !p.sees(")") {
		p.takeNames(Param)
	}
	p.leave(")")
	p.block()
}

// block goes on only while nothing has failed: then each statement takes a token or fails.
func (p *parser) block() {
	p.enter("{")
	for !p.failed && !p.sees("}") {
		p.statement()
	}
	p.leave("}")
}

func (p *parser) statement() {
	t := p.ahead(0)
	switch t.Text {
	case "if":
		p.branch()
	case "while":
		p.take("while")
		p.bracketed()
		p.block()
	case "assume":
		p.take("assume")
		p.expr()
		p.take(";")
	case "acquire", "release":
		p.take(t.Text)
		p.takeName(LockUse)
		p.take(";")
	case "return":
		p.giveBack()
	case "skip":
		p.take("skip")
		p.take(";")
	default:
		p.assignOrCall()
	}
}

func (p *parser) branch() {
	p.take("if")
	p.bracketed()
	p.block()
	if p.accept("else") {
		p.block()
	}
}

func (p *parser) bracketed() {
	p.enter("(")
	p.expr()
	p.leave(")")
}

func (p *parser) giveBack() {
	p.take("return")
	if !p.sees(";") {
		p.expr()
	}
	p.take(";")
}

func (p *parser) assignOrCall() {
	if p.seesCall() {
		p.call()
	} else {
		p.takeName(Truth)
		p.take("=")
		p.assigned()
	}
	p.take(";")
}

func (p *parser) assigned() {
	if p.seesCall() {
		p.call()
	} else {
		p.expr()
	}
}

func (p *parser) call() {
	name := p.ahead(0)
	p.takeName(Callee)
	p.enter("(")
	values := 0
	if !p.sees(")") {
		values = p.values()
	}
	p.leave(")")
	p.calls = append(p.calls, Call{Word: name.Text, At: name.At, Values: values})
}

func (p *parser) values() int {
	p.expr()
	count := 1
	for p.accept(",") {
		p.expr()
		count++
	}
	return count
}

func (p *parser) expr() {
	p.term()
	for p.accept("|") {
		p.term()
	}
}

func (p *parser) term() {
	p.factor()
	for p.accept("&") {
		p.factor()
	}
}

func (p *parser) factor() {
	for p.sees("!") {
		p.take("!")
	}
	t := p.ahead(0)
	switch t.Text {
	case "(":
		p.bracketed()
	case "true", "false", "?":
		p.take(t.Text)
	default:
		p.takeName(Truth)
	}
}
