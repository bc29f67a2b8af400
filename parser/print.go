package parser

import (
	"strconv"

	"simproof/api"
)

// Print returns the canonical source of a program.
func Print(u api.Unit) (source string) {
	// No result of Parse lacks a child, but another tree may.
	defer func() {
		if recover() != nil {
			source = ""
		}
	}()
	var p printer
	p.declaration("durable", u.Durable)
	p.declaration("volatile", u.Volatile)
	for _, h := range u.On {
		p.handler(h)
	}
	return string(p.text)
}

// printer writes the tokens of a program.
type printer struct{ text []byte }

// put writes tokens, separated where they would become one.
func (p *printer) put(tokens ...string) {
	for _, t := range tokens {
		if n := len(p.text); n > 0 && inWord(p.text[n-1]) && inWord(t[0]) {
			p.text = append(p.text, ' ')
		}
		p.text = append(p.text, t...)
	}
}

// inWord reports whether a byte of a token is a letter or a digit.
func inWord(b byte) bool { return 'a' <= b && b <= 'z' || '0' <= b && b <= '9' }

// declaration writes the declaration of all variables of a kind, if there are any.
func (p *printer) declaration(kind string, names []string) {
	before := kind
	for _, name := range names {
		p.put(before, name)
		before = ","
	}
	if len(names) > 0 {
		p.put(";")
	}
}

// handler writes a handler.
func (p *printer) handler(h api.Handler) {
	p.put("on")
	switch {
	case h.Number == api.OnStart:
		p.put("start")
	case h.Number == api.OnRequest:
		p.put("request")
	case h.Number < api.OnMessage:
		p.put("timer", strconv.Itoa(h.Number-api.OnTimer))
	default:
		p.put("message", strconv.Itoa(h.Number-api.OnMessage))
	}
	p.block(h.Body)
}

// block writes a block.
func (p *printer) block(n api.Node) {
	p.put("{")
	for _, statement := range n.Kids {
		p.statement(statement)
	}
	p.put("}")
}

// statement writes a statement.
func (p *printer) statement(n api.Node) {
	switch n.Kind {
	case api.NodeAssign:
		p.put(n.S, "=")
		p.list(n.Kids...)
	case api.NodeIf:
		p.ifElse(n)
		return
	case api.NodeWhile:
		p.put("while")
		p.expr(n.Kids[0], rankOr)
		p.block(n.Kids[1])
		return
	case api.NodeSend:
		p.put("send")
		p.list(n.Kids[0])
		p.put(",", strconv.Itoa(n.N), ",")
		p.list(n.Kids[1:]...)
	case api.NodeTimer:
		p.put("timer", strconv.Itoa(n.N))
	case api.NodeCancel:
		p.put("cancel", strconv.Itoa(n.N))
	case api.NodeSync:
		p.put("sync")
	case api.NodeReply:
		p.put("reply")
		p.list(n.Kids...)
	case api.NodeFail:
		p.put("fail")
		p.list(n.Kids...)
	case api.NodeStop:
		p.put("stop")
	}
	p.put(";")
}

// ifElse writes an if, without an else if its block is empty.
func (p *printer) ifElse(n api.Node) {
	p.put("if")
	p.expr(n.Kids[0], rankOr)
	p.block(n.Kids[1])
	if len(n.Kids[2].Kids) > 0 {
		p.put("else")
		p.block(n.Kids[2])
	}
}

// list writes expressions with commas between them.
func (p *printer) list(l ...api.Node) {
	for i, n := range l {
		if i > 0 {
			p.put(",")
		}
		p.expr(n, rankOr)
	}
}

// The ranks of expressions are the rules of the grammar: an expression of a rank can stand where the grammar asks for that rank or a lower one.
const (
	rankOr = iota
	rankAnd
	rankNot
	rankComparison
	rankSum
	rankProduct
	rankUnary
	rankPrimary
)

// rank returns the rank of an expression.
func rank(n api.Node) int {
	switch n.Kind {
	case api.NodeUnary:
		if n.S == "!" {
			return rankNot
		}
		return rankUnary
	case api.NodeBinary:
		return binaryRank(n.S)
	}
	return rankPrimary
}

// binaryRank returns the rank of an expression with a binary operator.
func binaryRank(operator string) int {
	switch operator {
	case "||":
		return rankOr
	case "&&":
		return rankAnd
	case "+", "-":
		return rankSum
	case "*", "/":
		return rankProduct
	}
	return rankComparison
}

// expr writes an expression where the grammar asks for a rank, in parentheses if its own one is lower.
func (p *printer) expr(n api.Node, least int) {
	if rank(n) >= least {
		p.bare(n)
		return
	}
	p.put("(")
	p.bare(n)
	p.put(")")
}

// bare writes an expression without parentheses around it.
func (p *printer) bare(n api.Node) {
	switch n.Kind {
	case api.NodeInt:
		p.put(strconv.Itoa(n.N))
	case api.NodeBool:
		p.put([]string{"false", "true"}[n.N])
	case api.NodeVar, api.NodeName:
		p.put(n.S)
	case api.NodeDraw:
		p.put("draw", "(")
		p.list(n.Kids[0])
		p.put(")")
	case api.NodeUnary:
		p.put(n.S)
		p.expr(n.Kids[0], rank(n))
	case api.NodeBinary:
		p.binary(n)
	}
}

// binary writes a binary operator with its operands.
func (p *printer) binary(n api.Node) {
	left, right := rank(n), rank(n)+1
	if left == rankComparison {
		// A comparison does not contain another one, while the other operators associate to the left.
		left = rankSum
	}
	p.expr(n.Kids[0], left)
	p.put(n.S)
	p.expr(n.Kids[1], right)
}
