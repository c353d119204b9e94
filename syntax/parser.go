package syntax

import (
	"races/api"
	"races/token"
)

// parser stops at the first token that can't stand where it does: once it has failed, nothing moves it on.
// So the place of the fault is that of the token it has come to.
type parser struct {
	tokens []token.Token
	next   int
	depth  int
	proc   int
	failed bool

	names      []Name
	calls      []Call
	statements []Statement
	nodes      []Node
}

// ahead answers a token behind the one that is next, or one without text if there is none.
func (p *parser) ahead(n int) token.Token {
	i := p.next + n
	if p.failed || i < 0 || i >= len(p.tokens) {
		return token.Token{}
	}
	return p.tokens[i]
}

func (p *parser) sees(text string) bool {
	t := p.ahead(0)
	return t.Text == text
}

func (p *parser) seesCall() bool {
	first := p.ahead(0)
	second := p.ahead(1)
	return first.Name && second.Text == "("
}

func (p *parser) take(text string) {
	if !p.sees(text) {
		p.failed = true
		return
	}
	p.next++
}

// accept takes a token that may be left out, and tells whether it was there.
func (p *parser) accept(text string) bool {
	if !p.sees(text) {
		return false
	}
	p.next++
	return true
}

// takeName answers the number of the name that it takes, -1 if there is none.
func (p *parser) takeName(role Role) int {
	t := p.ahead(0)
	if !t.Name {
		p.failed = true
		return -1
	}
	p.names = append(p.names, Name{Word: t.Text, At: t.At, Role: role, Proc: p.proc})
	p.next++
	return len(p.names) - 1
}

func (p *parser) takeNames(role Role) {
	p.takeName(role)
	for p.accept(",") {
		p.takeName(role)
	}
}

// enter takes a bracket or brace that opens. One too deep is a fault even where it has to come.
func (p *parser) enter(sign string) {
	if p.depth >= api.MaxDepth {
		p.failed = true
		return
	}
	p.take(sign)
	p.depth++
}

func (p *parser) leave(sign string) {
	p.take(sign)
	p.depth--
}

// add answers the number of the statement that it adds.
func (p *parser) add(s Statement) int {
	p.statements = append(p.statements, s)
	return len(p.statements) - 1
}

// addNode answers the number of the node that it adds.
func (p *parser) addNode(n Node) int {
	p.nodes = append(p.nodes, n)
	return len(p.nodes) - 1
}

func (p *parser) takeEnd() {
	if p.next < len(p.tokens) {
		p.failed = true
	}
}
