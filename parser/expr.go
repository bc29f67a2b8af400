package parser

import (
	"slices"

	"simproof/api"
	"simproof/lexer"
)

// expr parses an expression.
func (p *parser) expr() api.Node { return p.chain(p.and, "||") }

// and parses an expression without ||.
func (p *parser) and() api.Node { return p.chain(p.not, "&&") }

// sum parses an expression of + and -, and of what binds tighter.
func (p *parser) sum() api.Node { return p.chain(p.product, "+", "-") }

// product parses an expression of * and /, and of what binds tighter.
func (p *parser) product() api.Node { return p.chain(p.unary, "*", "/") }

// chain parses operands with operators of one precedence between them, which associate to the left.
func (p *parser) chain(operand func() api.Node, operators ...string) api.Node {
	left := operand()
	for slices.Contains(operators, p.next().Text) {
		operator := p.take().Text
		left = binary(operator, left, operand())
	}
	return left
}

// comparison parses a sum, or a comparison of two.
func (p *parser) comparison() api.Node {
	left := p.sum()
	switch p.next().Text {
	case "<", "<=", ">", ">=", "==", "!=":
		operator := p.take().Text
		return binary(operator, left, p.sum())
	}
	return left
}

// not parses a comparison, with any number of ! before it.
func (p *parser) not() api.Node { return p.prefixed("!", p.not, p.comparison) }

// unary parses a primary expression, with any number of - before it.
func (p *parser) unary() api.Node { return p.prefixed("-", p.unary, p.primary) }

// prefixed parses an operator and its operand, which is one level deeper, or an expression without the operator.
func (p *parser) prefixed(operator string, operand, other func() api.Node) api.Node {
	if !p.sees(operator) {
		return other()
	}
	return api.Node{Kind: api.NodeUnary, S: operator, Kids: []api.Node{p.deeper(operator, operand)}}
}

// primary parses an expression without operators around it.
func (p *parser) primary() api.Node {
	t := p.next()
	switch {
	case t.Kind == lexer.Number:
		return api.Node{Kind: api.NodeInt, N: p.take().N}
	case t.Text == "true":
		p.take()
		return api.Node{Kind: api.NodeBool, N: 1}
	case t.Text == "false":
		p.take()
		return api.Node{Kind: api.NodeBool}
	case t.Text == "draw":
		p.take()
		return api.Node{Kind: api.NodeDraw, Kids: []api.Node{p.inParentheses()}}
	case isBuiltIn(t.Text):
		return api.Node{Kind: api.NodeName, S: p.take().Text}
	case isName(t):
		return api.Node{Kind: api.NodeVar, S: p.take().Text}
	}
	return p.inParentheses()
}

// inParentheses parses an expression in parentheses, which is one level deeper.
func (p *parser) inParentheses() api.Node {
	n := p.deeper("(", p.expr)
	p.must(")")
	return n
}

// binary returns an operator with its operands.
func binary(operator string, left, right api.Node) api.Node {
	return api.Node{Kind: api.NodeBinary, S: operator, Kids: []api.Node{left, right}}
}
