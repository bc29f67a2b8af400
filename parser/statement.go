package parser

import "simproof/api"

// statements returns the functions that parse statements, by the statements' first words. Every other statement is an assignment.
func statements() map[string]func(*parser) api.Node {
	return map[string]func(*parser) api.Node{
		"if":     (*parser).ifElse,
		"while":  (*parser).while,
		"send":   (*parser).send,
		"timer":  func(p *parser) api.Node { return p.timer(api.NodeTimer) },
		"cancel": func(p *parser) api.Node { return p.timer(api.NodeCancel) },
		"sync":   func(p *parser) api.Node { return p.simple(api.NodeSync) },
		"stop":   func(p *parser) api.Node { return p.simple(api.NodeStop) },
		"reply":  (*parser).reply,
		"fail":   (*parser).fault,
	}
}

// block parses a block, which is one level deeper than what surrounds it.
func (p *parser) block() api.Node {
	n := p.deeper("{", p.sequence)
	p.must("}")
	return n
}

// sequence parses the statements of a block.
func (p *parser) sequence() api.Node {
	block := api.Node{Kind: api.NodeBlock}
	for !p.sees("}") {
		block.Kids = append(block.Kids, p.statement())
	}
	return block
}

// statement parses a statement.
func (p *parser) statement() api.Node {
	if parse, ok := p.statements[p.next().Text]; ok {
		return parse(p)
	}
	return p.assignment()
}

// assignment parses the assignment to a variable.
func (p *parser) assignment() api.Node {
	p.need(isName(p.next()))
	n := api.Node{Kind: api.NodeAssign, S: p.take().Text}
	p.must("=")
	n.Kids = []api.Node{p.expr()}
	p.must(";")
	return n
}

// ifElse parses an if, which gets an empty block if it has no else.
func (p *parser) ifElse() api.Node {
	p.must("if")
	condition := p.expr()
	yes, no := p.block(), api.Node{Kind: api.NodeBlock}
	if p.sees("else") {
		p.take()
		no = p.block()
	}
	return api.Node{Kind: api.NodeIf, Kids: []api.Node{condition, yes, no}}
}

// while parses a loop.
func (p *parser) while() api.Node {
	p.must("while")
	condition := p.expr()
	return api.Node{Kind: api.NodeWhile, Kids: []api.Node{condition, p.block()}}
}

// send parses the sending of a message. Its kind stands between the receiver and the values.
func (p *parser) send() api.Node {
	p.must("send")
	to := p.expr()
	p.must(",")
	kind := p.number(api.MaxKinds)
	p.must(",")
	a := p.expr()
	p.must(",")
	b := p.expr()
	p.must(";")
	return api.Node{Kind: api.NodeSend, N: kind, Kids: []api.Node{to, a, b}}
}

// timer parses a statement of this kind, which consists of a word and the number of a timer.
func (p *parser) timer(kind int) api.Node {
	p.take()
	n := api.Node{Kind: kind, N: p.number(api.MaxTimers)}
	p.must(";")
	return n
}

// simple parses a statement of this kind, which consists of a word.
func (p *parser) simple(kind int) api.Node {
	p.take()
	p.must(";")
	return api.Node{Kind: kind}
}

// reply parses the reply to a request.
func (p *parser) reply() api.Node {
	p.must("reply")
	request := p.expr()
	p.must(",")
	value := p.expr()
	p.must(";")
	return api.Node{Kind: api.NodeReply, Kids: []api.Node{request, value}}
}

// fault parses the report of a failure code.
func (p *parser) fault() api.Node {
	p.must("fail")
	code := p.expr()
	p.must(";")
	return api.Node{Kind: api.NodeFail, Kids: []api.Node{code}}
}
