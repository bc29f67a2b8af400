package compile

import (
	"math/rand"
	"slices"
	"strconv"
	"strings"
	"testing"

	"simproof/api"
	"simproof/parser"
)

// opcodes are the names of the opcodes in these tests, in the order of their numbers.
var opcodes = strings.Fields("push var set name draw add sub mul div neg lt le eq not jump unless send timer cancel sync reply fail stop")

// stackUses tells how many values the instructions pop and push; those that are left out do neither.
var stackUses = map[string][2]int{
	"push": {0, 1}, "var": {0, 1}, "name": {0, 1}, "draw": {1, 1}, "neg": {1, 1}, "not": {1, 1},
	"add": {2, 1}, "sub": {2, 1}, "mul": {2, 1}, "div": {2, 1}, "lt": {2, 1}, "le": {2, 1}, "eq": {2, 1},
	"set": {1, 0}, "unless": {1, 0}, "fail": {1, 0}, "reply": {2, 0}, "send": {3, 0},
}

// opcode returns the number of an opcode.
func opcode(name string) int { return slices.Index(opcodes, name) + 1 }

// opcodeName returns the name of an opcode, and an empty one for an unknown one.
func opcodeName(op int) string {
	if op >= 1 && op <= len(opcodes) {
		return opcodes[op-1]
	}
	return ""
}

// hasOperand reports whether instructions with this opcode are written with an operand.
func hasOperand(name string) bool {
	return slices.Contains(strings.Fields("push var set name jump unless send timer cancel"), name)
}

// number returns the number that is written as a word.
func number(word string) int {
	n, _ := strconv.Atoi(word)
	return n
}

// shape is what distinguishes the rows of the chapter's table.
type shape struct {
	kind   int
	symbol string
}

// chapterTable returns the codes of nodes: [0], [1] and [2] are the codes of the children, N is the node's number, and k the number of its name. A word that ends in a colon is a label.
func chapterTable() map[shape]string {
	return map[shape]string{
		{api.NodeInt, ""}: "push N", {api.NodeBool, ""}: "push N", {api.NodeVar, ""}: "var k", {api.NodeName, ""}: "name k",
		{api.NodeDraw, ""}: "[0] draw", {api.NodeUnary, "-"}: "[0] neg", {api.NodeUnary, "!"}: "[0] not",
		{api.NodeBinary, "+"}: "[0] [1] add", {api.NodeBinary, "-"}: "[0] [1] sub", {api.NodeBinary, "*"}: "[0] [1] mul", {api.NodeBinary, "/"}: "[0] [1] div",
		{api.NodeBinary, "<"}: "[0] [1] lt", {api.NodeBinary, "<="}: "[0] [1] le", {api.NodeBinary, "=="}: "[0] [1] eq",
		{api.NodeBinary, ">"}: "[0] [1] le not", {api.NodeBinary, ">="}: "[0] [1] lt not", {api.NodeBinary, "!="}: "[0] [1] eq not",
		{api.NodeBinary, "&&"}: "[0] unless F [1] jump E F: push 0 E:",
		{api.NodeBinary, "||"}: "[0] unless F push 1 jump E F: [1] E:",
		{api.NodeAssign, ""}:   "[0] set k",
		{api.NodeIf, ""}:       "[0] unless F [1] jump E F: [2] E:",
		{api.NodeWhile, ""}:    "L: [0] unless E [1] jump L E:",
		{api.NodeSend, ""}:     "[0] [1] [2] send N",
		{api.NodeTimer, ""}:    "timer N", {api.NodeCancel, ""}: "cancel N", {api.NodeSync, ""}: "sync", {api.NodeStop, ""}: "stop",
		{api.NodeReply, ""}: "[0] [1] reply", {api.NodeFail, ""}: "[0] fail",
	}
}

// expander writes the codes of nodes as words.
type expander struct {
	unit   api.Unit
	table  map[shape]string
	copies int // of rows of the table, each of which has labels of its own
}

// words returns the code of a node.
func (x *expander) words(n api.Node) []string {
	var l []string
	if n.Kind == api.NodeBlock {
		for _, kid := range n.Kids {
			l = append(l, x.words(kid)...)
		}
		return l
	}
	key := shape{kind: n.Kind}
	if n.Kind == api.NodeUnary || n.Kind == api.NodeBinary {
		key.symbol = n.S
	}
	x.copies++
	mark := strconv.Itoa(x.copies)
	for word := range strings.FieldsSeq(x.table[key]) {
		switch {
		case word[0] == '[':
			l = append(l, x.words(n.Kids[number(word[1:2])])...)
		case word == "N":
			l = append(l, strconv.Itoa(n.N))
		case word == "k":
			l = append(l, strconv.Itoa(nameNumber(x.unit, n)))
		case word[0] >= 'A' && word[0] <= 'Z':
			l = append(l, word[:1]+mark+word[1:])
		default:
			l = append(l, word)
		}
	}
	return l
}

// nameNumber returns the number of a variable or built-in value.
func nameNumber(u api.Unit, n api.Node) int {
	names := append(slices.Clone(u.Durable), u.Volatile...)
	if n.Kind == api.NodeName {
		names = strings.Fields("self nodes now from a b id op key")
	}
	return slices.Index(names, n.S)
}

// assembled returns the instructions that words stand for.
func assembled(words []string) []api.Ins {
	labels, at := map[string]int{}, 0
	for _, word := range words {
		if label, ok := strings.CutSuffix(word, ":"); ok {
			labels[label] = at
		} else if opcode(word) > 0 {
			at++
		}
	}
	var code []api.Ins
	for i, word := range words {
		if opcode(word) == 0 {
			continue
		}
		in := api.Ins{Op: opcode(word)}
		if hasOperand(word) {
			operand := words[i+1]
			target, isLabel := labels[operand]
			if in.N = target; !isLabel {
				in.N = number(operand)
			}
		}
		code = append(code, in)
	}
	return code
}

// definedCompile returns what P8.1 tells about a program.
func definedCompile(u api.Unit) (api.Program, api.Errno) {
	x := &expander{unit: u, table: chapterTable()}
	p := api.Program{Durable: len(u.Durable), Volatile: len(u.Volatile)}
	var words []string
	for h := range p.Entry {
		p.Entry[h] = -1
		for _, handler := range u.On {
			if handler.Number == h {
				p.Entry[h] = len(assembled(words))
				words = append(append(words, x.words(handler.Body)...), "stop")
			}
		}
	}
	p.Code = assembled(words)
	if len(p.Code) > 400 {
		return api.Program{}, api.ErrLimit
	}
	if slices.ContainsFunc(p.Entry[:], func(entry int) bool { return entry >= 0 && !definedStackFits(p, entry) }) {
		return api.Program{}, api.ErrStack
	}
	return p, api.OK
}

// definedSuccessors returns the successors of an instruction, in the code or behind it.
func definedSuccessors(p api.Program, at int) []int {
	switch opcodeName(p.Code[at].Op) {
	case "stop":
		return nil
	case "jump":
		return []int{p.Code[at].N}
	case "unless":
		return []int{p.Code[at].N, at + 1}
	}
	return []int{at + 1}
}

// definedStackFits follows all paths from an entry, an instruction being visited once with each depth of the stack.
func definedStackFits(p api.Program, entry int) bool {
	seen := map[[2]int]bool{{entry, 0}: true}
	for work := [][2]int{{entry, 0}}; len(work) > 0; work = work[1:] {
		at, depth := work[0][0], work[0][1]
		use := stackUses[opcodeName(p.Code[at].Op)]
		depth -= use[0]
		if depth < 0 || depth+use[1] > 16 {
			return false
		}
		depth += use[1]
		for _, next := range definedSuccessors(p, at) {
			if state := [2]int{next, depth}; !seen[state] {
				seen[state] = true
				work = append(work, state)
			}
		}
	}
	for at := range p.Code {
		depths := 0
		for depth := range 17 {
			if seen[[2]int{at, depth}] {
				depths++
			}
		}
		if depths > 1 {
			return false
		}
	}
	return true
}

// definedOperand reports whether an instruction has a valid operand.
func definedOperand(p api.Program, in api.Ins) bool {
	from, to := 0, 0
	switch opcodeName(in.Op) {
	case "push":
		from, to = -2147483647, 2147483647
	case "var", "set":
		to = p.Durable + p.Volatile - 1
	case "name":
		to = 8
	case "send":
		to = 29
	case "timer", "cancel":
		to = 7
	case "jump", "unless":
		to = len(p.Code) - 1
	}
	return from <= in.N && in.N <= to
}

// definedRunsOut adds successors to the set of reachable instructions until it stays the same, and reports whether it gets behind the last one.
func definedRunsOut(p api.Program) bool {
	reachable := map[int]bool{}
	for _, entry := range p.Entry {
		if entry >= 0 {
			reachable[entry] = true
		}
	}
	for before := -1; before < len(reachable); {
		before = len(reachable)
		for at := range p.Code {
			if reachable[at] {
				for _, next := range definedSuccessors(p, at) {
					reachable[next] = true
				}
			}
		}
	}
	return reachable[len(p.Code)]
}

// definedVerify returns what P8.3 tells about a program whose numbers are so small that sums do not overflow.
func definedVerify(p api.Program) api.Errno {
	if len(p.Code) > 400 {
		return api.ErrLimit
	}
	if p.Durable < 0 || p.Volatile < 0 || p.Durable+p.Volatile > 16 {
		return api.ErrCode
	}
	if slices.ContainsFunc(p.Code, func(in api.Ins) bool { return opcodeName(in.Op) == "" || !definedOperand(p, in) }) {
		return api.ErrCode
	}
	if slices.ContainsFunc(p.Entry[:], func(entry int) bool { return entry < -1 || entry >= len(p.Code) }) || definedRunsOut(p) {
		return api.ErrCode
	}
	if slices.ContainsFunc(p.Entry[:], func(entry int) bool { return entry >= 0 && !definedStackFits(p, entry) }) {
		return api.ErrStack
	}
	return api.OK
}

// The words of the tests stand for the opcodes of package api.
func TestOpcodes(t *testing.T) {
	l := []int{
		api.OpPush, api.OpVar, api.OpSetVar, api.OpName, api.OpDraw, api.OpAdd, api.OpSub, api.OpMul, api.OpDiv, api.OpNeg, api.OpLt, api.OpLe,
		api.OpEq, api.OpNot, api.OpJump, api.OpUnless, api.OpSend, api.OpTimer, api.OpCancel, api.OpSync, api.OpReply, api.OpFail, api.OpStop,
	}
	for i, name := range opcodes {
		if l[i] != opcode(name) || opcodeName(l[i]) != name {
			t.Errorf("the opcode %s is %d", name, l[i])
		}
	}
}

// parsed returns the tree of a program, which must be one by the grammar.
func parsed(t *testing.T, source string) api.Unit {
	t.Helper()
	u, at, e := parser.Parse(source)
	if e != api.OK {
		t.Fatalf("no program: %q: %d, %v", source, at, e)
	}
	return u
}

// program returns a program with this code, two variables of each kind, and entries for the first handlers.
func program(words string, entries ...int) api.Program {
	p := api.Program{Code: assembled(strings.Fields(words)), Durable: 2, Volatile: 2}
	for h := range p.Entry {
		p.Entry[h] = -1
	}
	copy(p.Entry[:], entries)
	return p
}

// equal reports whether two programs are equal.
func equal(p, q api.Program) bool {
	return slices.Equal(p.Code, q.Code) && p.Entry == q.Entry && p.Durable == q.Durable && p.Volatile == q.Volatile
}

// show returns the code of a program as words.
func show(p api.Program) string {
	var l []string
	for _, in := range p.Code {
		word := opcodeName(in.Op)
		if hasOperand(word) || in.N != 0 {
			word += " " + strconv.Itoa(in.N)
		}
		l = append(l, word)
	}
	return strings.Join(l, " ")
}

// maker makes random programs that are well-typed.
type maker struct{ r *rand.Rand }

// oneOf returns a random one of these alternatives.
func (m *maker) oneOf(alternatives ...string) string {
	return alternatives[m.r.Intn(len(alternatives))]
}

// text replaces the capital letters of a text: S by statements, I and B by expressions of these types, V by a variable, and C by a number that is a valid timer and message kind. Each replacement is less nested than what surrounds it.
func (m *maker) text(template string, depth int) string {
	var s strings.Builder
	for _, c := range template {
		switch c {
		case 'S':
			for range m.r.Intn(4) {
				s.WriteString(m.text(m.statement(depth), depth-1))
			}
		case 'I':
			s.WriteString(m.text(m.integer(depth), depth-1))
		case 'B':
			s.WriteString(m.text(m.truth(depth), depth-1))
		case 'V':
			s.WriteString(m.oneOf("d0", "d1", "v0", "v1"))
		case 'C':
			s.WriteString(m.oneOf("0", "1", "7"))
		default:
			s.WriteRune(c)
		}
	}
	return s.String()
}

// statement returns the template of a statement.
func (m *maker) statement(depth int) string {
	if depth > 0 && m.r.Intn(2) == 0 {
		return m.oneOf("if B{S}", "if B{S}else{S}", "if B{}else{S}", "while B{S}")
	}
	return m.oneOf("V=I;", "V=I;", "V=I;", "send I,C,I,I;", "reply I,I;", "fail I;", "timer C;", "cancel C;", "sync;", "stop;")
}

// integer returns the template of an expression of type Int.
func (m *maker) integer(depth int) string {
	if depth > 0 && m.r.Intn(3) > 0 {
		return m.oneOf("(I+I)", "(I-I)", "(I*I)", "(I/I)", "(-I)", "draw(I)")
	}
	return m.oneOf("V", "V", "C", "2", "2147483647", "self", "nodes", "now", "from", "a", "b", "id", "op", "key")
}

// truth returns the template of an expression of type Bool.
func (m *maker) truth(depth int) string {
	if depth > 0 && m.r.Intn(5) > 0 {
		return m.oneOf("(I<I)", "(I<=I)", "(I>I)", "(I>=I)", "(I==I)", "(I!=I)", "(B&&B)", "(B||B)", "(B&&B)", "(B||B)", "(!B)")
	}
	return m.oneOf("true", "false", "draw(2)<1", "V==2")
}

// source returns a random program with this many handlers.
func (m *maker) source(handlers, depth int) string {
	source := "durable d0,d1;volatile v0,v1;"
	words := []string{"start", "request", "timer 0", "timer 7", "message 0", "message 29"}
	for _, i := range m.r.Perm(len(words))[:handlers] {
		source += "on " + words[i] + m.text("{S}", depth)
	}
	return source
}

// each calls a function with random programs of at most MaxSource bytes.
func each(t *testing.T, seed int64, count, depth int, f func(m *maker, source string, u api.Unit)) {
	t.Helper()
	m := &maker{rand.New(rand.NewSource(seed))}
	for count > 0 {
		source := m.source(1+m.r.Intn(3), depth)
		if len(source) <= api.MaxSource {
			f(m, source, parsed(t, source))
			count--
		}
	}
}
