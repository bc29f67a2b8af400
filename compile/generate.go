package compile

import (
	"slices"

	"simproof/api"
	"simproof/types"
)

// generator appends the codes of syntax tree nodes to the code of a program.
type generator struct {
	unit      api.Unit
	code      []api.Ins
	methods   map[int]func(*generator, api.Node) // the methods that generate the codes, by the kinds of nodes
	operators map[string][]int                   // the opcodes that follow both operands, by the operators
}

// generate returns the bytecode of a program, however long it is and however much stack it needs.
func generate(u api.Unit) api.Program {
	g := generator{unit: u, methods: methods(), operators: operators()}
	p := api.Program{Durable: len(u.Durable), Volatile: len(u.Volatile)}
	for number := range p.Entry {
		p.Entry[number] = -1
	}
	for _, h := range u.On {
		p.Entry[h.Number] = len(g.code)
		g.node(h.Body)
		g.emit(api.OpStop, 0)
	}
	p.Code = g.code
	return p
}

// methods returns the methods that generate the codes of nodes, by the nodes' kinds.
func methods() map[int]func(*generator, api.Node) {
	return map[int]func(*generator, api.Node){
		api.NodeAssign: (*generator).assign,
		api.NodeIf:     (*generator).ifElse,
		api.NodeWhile:  (*generator).while,
		api.NodeSend:   (*generator).send,
		api.NodeTimer:  (*generator).timer,
		api.NodeCancel: (*generator).cancel,
		api.NodeSync:   (*generator).sync,
		api.NodeReply:  (*generator).reply,
		api.NodeFail:   (*generator).fail,
		api.NodeStop:   (*generator).stop,
		api.NodeBlock:  (*generator).kids,
		api.NodeInt:    (*generator).literal,
		api.NodeBool:   (*generator).literal,
		api.NodeVar:    (*generator).variable,
		api.NodeName:   (*generator).builtIn,
		api.NodeDraw:   (*generator).draw,
		api.NodeUnary:  (*generator).unary,
		api.NodeBinary: (*generator).binary,
	}
}

// operators returns the opcodes that follow both operands of binary operators. The code of && and || is a choice instead.
func operators() map[string][]int {
	return map[string][]int{
		"+": {api.OpAdd}, "-": {api.OpSub}, "*": {api.OpMul}, "/": {api.OpDiv},
		"<": {api.OpLt}, "<=": {api.OpLe}, "==": {api.OpEq},
		">": {api.OpLe, api.OpNot}, ">=": {api.OpLt, api.OpNot}, "!=": {api.OpEq, api.OpNot},
	}
}

// emit appends an instruction and returns its index.
func (g *generator) emit(op, operand int) int {
	g.code = append(g.code, api.Ins{Op: op, N: operand})
	return len(g.code) - 1
}

// land makes the jump at this index lead to the instruction that is generated next.
func (g *generator) land(jump int) { g.code[jump].N = len(g.code) }

// node generates the code of a node.
func (g *generator) node(n api.Node) { g.methods[n.Kind](g, n) }

// kids generates the codes of a node's children.
func (g *generator) kids(n api.Node) {
	for _, kid := range n.Kids {
		g.node(kid)
	}
}

// guarded generates [condition], OpUnless F, [body], OpJump target, F: and returns the index of OpJump. The target F is known only after the last instruction, thus at the end of the call.
func (g *generator) guarded(condition, body api.Node, target int) int {
	g.node(condition)
	skip := g.emit(api.OpUnless, 0)
	defer g.land(skip)
	g.node(body)
	return g.emit(api.OpJump, target)
}

// choose generates [condition], OpUnless F, [yes], OpJump E, F: [no], E:
func (g *generator) choose(condition, yes, no api.Node) {
	leave := g.guarded(condition, yes, 0)
	defer g.land(leave)
	g.node(no)
}

// ifElse generates the code of an if.
func (g *generator) ifElse(n api.Node) { g.choose(n.Kids[0], n.Kids[1], n.Kids[2]) }

// while generates the code of a loop.
func (g *generator) while(n api.Node) { g.guarded(n.Kids[0], n.Kids[1], len(g.code)) }

// after generates the codes of a node's children, followed by an instruction.
func (g *generator) after(n api.Node, op, operand int) {
	g.kids(n)
	g.emit(op, operand)
}

// index returns the number of the variable that a node names.
func (g *generator) index(n api.Node) int { return types.Index(g.unit, n.S) }

// assign generates the code of an assignment.
func (g *generator) assign(n api.Node) { g.after(n, api.OpSetVar, g.index(n)) }

// send generates the code that sends a message.
func (g *generator) send(n api.Node) { g.after(n, api.OpSend, n.N) }

// timer generates the code that sets a timer.
func (g *generator) timer(n api.Node) { g.emit(api.OpTimer, n.N) }

// cancel generates the code that cancels a timer.
func (g *generator) cancel(n api.Node) { g.emit(api.OpCancel, n.N) }

// sync generates the code that makes durable writes permanent.
func (g *generator) sync(api.Node) { g.emit(api.OpSync, 0) }

// reply generates the code of a reply.
func (g *generator) reply(n api.Node) { g.after(n, api.OpReply, 0) }

// fail generates the code that reports a failure code.
func (g *generator) fail(n api.Node) { g.after(n, api.OpFail, 0) }

// stop generates the code that ends the handler.
func (g *generator) stop(api.Node) { g.emit(api.OpStop, 0) }

// literal generates the code of a number or a boolean.
func (g *generator) literal(n api.Node) { g.emit(api.OpPush, n.N) }

// variable generates the code that reads a variable.
func (g *generator) variable(n api.Node) { g.emit(api.OpVar, g.index(n)) }

// builtIn generates the code that reads a built-in value.
func (g *generator) builtIn(n api.Node) {
	names := []string{
		api.NameSelf: "self", api.NameNodes: "nodes", api.NameNow: "now", api.NameFrom: "from",
		api.NameA: "a", api.NameB: "b", api.NameID: "id", api.NameOp: "op", api.NameKey: "key",
	}
	g.emit(api.OpName, slices.Index(names, n.S))
}

// draw generates the code that draws a number.
func (g *generator) draw(n api.Node) { g.after(n, api.OpDraw, 0) }

// unary generates the code of a unary operator.
func (g *generator) unary(n api.Node) {
	op := api.OpNeg
	if n.S == "!" {
		op = api.OpNot
	}
	g.after(n, op, 0)
}

// binary generates the code of a binary operator.
func (g *generator) binary(n api.Node) {
	a, b := n.Kids[0], n.Kids[1]
	switch n.S {
	case "&&":
		g.choose(a, b, api.Node{Kind: api.NodeBool, N: 0})
	case "||":
		g.choose(a, api.Node{Kind: api.NodeBool, N: 1}, b)
	default:
		g.kids(n)
		for _, op := range g.operators[n.S] {
			g.emit(op, 0)
		}
	}
}
