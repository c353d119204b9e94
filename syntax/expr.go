package syntax

// value reads an EXPR that is worked out in a step from the statement.
func (p *parser) value(s *Statement) {
	first := len(p.nodes)
	last := p.expr()
	s.Values = append(s.Values, Expr{First: first, Last: last})
}

// expr, term and factor answer the number of the node that is the whole of what they read.

func (p *parser) expr() int {
	whole := p.term()
	for p.accept("|") {
		right := p.term()
		whole = p.addNode(Node{Sign: Or, Name: -1, Left: whole, Right: right})
	}
	return whole
}

func (p *parser) term() int {
	whole := p.factor()
	for p.accept("&") {
		right := p.factor()
		whole = p.addNode(Node{Sign: And, Name: -1, Left: whole, Right: right})
	}
	return whole
}

func (p *parser) factor() int {
	nots := 0
	for p.accept("!") {
		nots++
	}
	whole := p.plainFactor()
	for i := 0; i < nots; i++ {
		whole = p.addNode(Node{Sign: Not, Name: -1, Right: whole})
	}
	return whole
}

func (p *parser) plainFactor() int {
	t := p.ahead(0)
	switch t.Text {
	case "(":
		return p.bracketed()
	case "true":
		return p.constant(t.Text, True)
	case "false":
		return p.constant(t.Text, False)
	case "?":
		return p.constant(t.Text, Choice)
	}
	name := p.takeName(Truth)
	return p.addNode(Node{Sign: Named, Name: name})
}

func (p *parser) bracketed() int {
	p.enter("(")
	whole := p.expr()
	p.leave(")")
	return whole
}

func (p *parser) constant(text string, sign Sign) int {
	p.take(text)
	return p.addNode(Node{Sign: sign, Name: -1})
}
