package types

import (
	"slices"

	"simproof/api"
)

// rule tells what the types of the operands must be, and what the type of the result is then. The zero rule has no valid result.
type rule struct {
	operands []Type
	result   Type
}

// rules are the rules of the operators, by their symbols.
type rules struct{ unary, binary map[string]rule }

// newRules returns the rules of all operators.
func newRules() rules {
	arithmetic := rule{[]Type{Int, Int}, Int}
	comparison := rule{[]Type{Int, Int}, Bool}
	logic := rule{[]Type{Bool, Bool}, Bool}
	return rules{
		unary: map[string]rule{"-": {[]Type{Int}, Int}, "!": {[]Type{Bool}, Bool}},
		binary: map[string]rule{
			"+": arithmetic, "-": arithmetic, "*": arithmetic, "/": arithmetic,
			"<": comparison, "<=": comparison, ">": comparison, ">=": comparison, "==": comparison, "!=": comparison,
			"&&": logic, "||": logic,
		},
	}
}

// typeOf returns the type of an expression.
func (r rules) typeOf(n api.Node) Type {
	switch n.Kind {
	case api.NodeInt, api.NodeVar, api.NodeName:
		return Int
	case api.NodeBool:
		return Bool
	case api.NodeDraw:
		return r.apply(rule{[]Type{Int}, Int}, n.Kids)
	case api.NodeUnary:
		return r.apply(r.unary[n.S], n.Kids)
	case api.NodeBinary:
		return r.apply(r.binary[n.S], n.Kids)
	}
	return Invalid
}

// apply returns the type of the result that a rule gives for operands.
func (r rules) apply(chosen rule, operands []api.Node) Type {
	fits := func(n api.Node, want Type) bool { return r.typeOf(n) == want }
	if slices.EqualFunc(operands, chosen.operands, fits) {
		return chosen.result
	}
	return Invalid
}

// wellTyped reports whether a statement is well-typed.
func (r rules) wellTyped(n api.Node) bool {
	kids := n.Kids
	switch n.Kind {
	case api.NodeIf, api.NodeWhile:
		if len(kids) == 0 || r.typeOf(kids[0]) != Bool {
			return false
		}
		// What follows the condition is checked like the statements of a block.
		kids = kids[1:]
		fallthrough
	case api.NodeBlock:
		return all(kids, r.wellTyped)
	case api.NodeAssign, api.NodeSend, api.NodeReply, api.NodeFail:
		return all(kids, func(kid api.Node) bool { return r.typeOf(kid) == Int })
	case api.NodeTimer, api.NodeCancel, api.NodeSync, api.NodeStop:
		return true
	}
	return false
}

// all reports whether a condition holds for all nodes.
func all(nodes []api.Node, holds func(api.Node) bool) bool {
	return !slices.ContainsFunc(nodes, func(n api.Node) bool { return !holds(n) })
}
