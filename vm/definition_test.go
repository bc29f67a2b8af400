package vm

import (
	"maps"
	"math"
	"math/big"
	"math/rand"
	"slices"
	"testing"

	"simproof/api"
	"simproof/compile"
)

// answers replies to questions in turn, from the beginning again when there are no more answers, and records the questions.
type answers struct {
	list  []int
	asked [][2]int // indices and arities
}

// ask answers a question.
func (a *answers) ask(index, arity int) int {
	a.asked = append(a.asked, [2]int{index, arity})
	return a.list[(len(a.asked)-1)%len(a.list)]
}

// defined returns what the chapter's table tells about an execution, whose numbers are computed without a limit first.
func defined(p api.Program, handler int, in Input, ask func(index, arity int) int) Output {
	out := Output{Vars: slices.Clone(in.Vars)}
	var stack []int
	questions := 0
	covered := map[int]bool{}
	var last api.Ins
	for at := p.Entry[handler]; at >= 0 && out.Steps < 500 && last.Op != api.OpStop; {
		last = p.Code[at]
		covered[at] = true
		out.Steps++
		rest := len(stack) - definedPops(last.Op)
		l := slices.Clone(stack[rest:]) // the values that are popped, the first one last
		stack = stack[:rest]
		at++
		switch last.Op {
		case api.OpJump:
			at = last.N
		case api.OpUnless:
			if l[0] == 0 {
				at = last.N
			}
		case api.OpSetVar:
			out.Vars[last.N] = l[0]
		case api.OpVar:
			stack = append(stack, out.Vars[last.N])
		case api.OpDraw:
			k, answer := max(1, min(l[0], 4)), 0
			if k > 1 {
				answer = int(new(big.Int).Mod(big.NewInt(int64(ask(questions, k))), big.NewInt(int64(k))).Int64())
				questions++
			}
			stack = append(stack, answer)
		default:
			stack = append(stack, definedResult(last, in, l)...)
		}
		out.Acts = append(out.Acts, definedActs(last, p.Durable, in.Names[api.NameNodes], out.Acts, l)...)
	}
	out.Spent = out.Steps == 500 && last.Op != api.OpStop
	out.Covered = slices.Sorted(maps.Keys(covered))
	return out
}

// definedPops tells how many values an instruction pops.
func definedPops(op int) int {
	switch op {
	case api.OpSetVar, api.OpDraw, api.OpNeg, api.OpNot, api.OpUnless, api.OpFail:
		return 1
	case api.OpAdd, api.OpSub, api.OpMul, api.OpDiv, api.OpLt, api.OpLe, api.OpEq, api.OpReply:
		return 2
	case api.OpSend:
		return 3
	}
	return 0
}

// definedResult returns what an instruction pushes that neither asks nor reads a variable.
func definedResult(i api.Ins, in Input, l []int) []int {
	order := 0 // of both operands
	if definedPops(i.Op) == 2 {
		order = big.NewInt(int64(l[0])).Cmp(big.NewInt(int64(l[1])))
	}
	switch i.Op {
	case api.OpPush:
		return []int{i.N}
	case api.OpName:
		return []int{in.Names[i.N]}
	case api.OpAdd, api.OpSub, api.OpMul, api.OpDiv:
		return []int{definedArithmetic(i.Op, l[0], l[1])}
	case api.OpNeg:
		return []int{definedArithmetic(api.OpSub, 0, l[0])}
	case api.OpLt:
		return []int{truth(order < 0)}
	case api.OpLe:
		return []int{truth(order <= 0)}
	case api.OpEq:
		return []int{truth(order == 0)}
	case api.OpNot:
		return []int{truth(l[0] == 0)}
	}
	return nil
}

// truth returns the number that stands for a truth value.
func truth(b bool) int {
	if b {
		return 1
	}
	return 0
}

// definedArithmetic returns the result of an arithmetic operation.
func definedArithmetic(op, a, b int) int {
	y, x := big.NewInt(int64(a)), big.NewInt(int64(b))
	switch {
	case op == api.OpAdd:
		y.Add(y, x)
	case op == api.OpSub:
		y.Sub(y, x)
	case op == api.OpMul:
		y.Mul(y, x)
	case b == 0:
		return 0
	default:
		y.Quo(y, x)
	}
	switch most := big.NewInt(2147483647); {
	case y.Cmp(most) > 0:
		return 2147483647
	case y.CmpAbs(most) > 0:
		return -2147483647
	}
	return int(y.Int64())
}

// definedActs returns what an instruction emits after these actions.
func definedActs(i api.Ins, durable, nodes int, before []api.Act, l []int) []api.Act {
	a := api.Act{A: i.N}
	switch i.Op {
	case api.OpSetVar:
		if a.Kind, a.B = api.ActWrite, l[0]; i.N >= durable {
			return nil
		}
	case api.OpSend:
		a = api.Act{Kind: api.ActSend, A: l[0], B: i.N, C: l[1], D: l[2]}
		if a.A < 0 || a.A > nodes-1 || sends(before) == 20 {
			return nil
		}
	case api.OpTimer:
		a.Kind = api.ActTimer
	case api.OpCancel:
		a.Kind = api.ActCancel
	case api.OpSync:
		a = api.Act{Kind: api.ActSync}
	case api.OpReply:
		a = api.Act{Kind: api.ActReply, A: l[0], B: l[1]}
	case api.OpFail:
		a = api.Act{Kind: api.ActFail, A: l[0]}
	default:
		return nil
	}
	return []api.Act{a}
}

// sends counts the messages among actions.
func sends(acts []api.Act) int {
	count := 0
	for _, a := range acts {
		count += truth(a.Kind == api.ActSend)
	}
	return count
}

// same reports whether two outputs are equal.
func same(a, b Output) bool {
	return slices.Equal(a.Vars, b.Vars) && slices.Equal(a.Acts, b.Acts) && a.Steps == b.Steps && a.Spent == b.Spent && slices.Equal(a.Covered, b.Covered)
}

// code returns the instructions with these opcodes and operands.
func code(opsAndOperands ...int) []api.Ins {
	var l []api.Ins
	for pair := range slices.Chunk(opsAndOperands, 2) {
		l = append(l, api.Ins{Op: pair[0], N: pair[1]})
	}
	return l
}

// program returns a program with two variables of each kind whose handlers are none but OnStart, at the first one of these instructions.
func program(instructions ...[]api.Ins) api.Program {
	p := api.Program{Code: slices.Concat(instructions...), Durable: 2, Volatile: 2}
	for h := range p.Entry {
		p.Entry[h] = -1
	}
	p.Entry[api.OnStart] = 0
	return p
}

// built returns the program of a source, which must be valid.
func built(t *testing.T, source string) api.Program {
	t.Helper()
	p, e := compile.Build(source)
	if e != api.OK {
		t.Fatalf("no program: %q: %v", source, e)
	}
	return p
}

// checkDefined fails the test unless a program is valid and its execution is what the chapter's table tells. It returns the output and the questions.
func checkDefined(t *testing.T, p api.Program, handler int, in Input, list ...int) (Output, [][2]int) {
	t.Helper()
	if e := compile.Verify(p); e != api.OK {
		t.Fatalf("no valid program: %v: %v", p, e)
	}
	got, want := answers{list: append(list, 0)}, answers{list: append(list, 0)}
	out, wanted := Run(p, handler, in, got.ask), defined(p, handler, in, want.ask)
	if !same(out, wanted) || !slices.Equal(got.asked, want.asked) {
		t.Errorf("handler %d of %v with %v and the answers %v: the output is %v with the questions %v, want %v with %v", handler, p, in, list, out, got.asked, wanted, want.asked)
	}
	return out, got.asked
}

// edges are numbers at which something changes.
func edges() []int {
	return []int{-api.MaxValue, -api.MaxValue + 1, -1 << 30, -65536, -46341, -46340, -7, -3, -2, -1, 0, 1, 2, 3, 4, 5, 7, 46340, 46341, 65536, 1 << 30, api.MaxValue - 1, api.MaxValue}
}

// maker makes random valid programs and inputs.
type maker struct{ r *rand.Rand }

// number returns a random number.
func (m *maker) number() int {
	if m.r.Intn(3) > 0 {
		return m.r.Intn(9) - 3
	}
	l := edges()
	return l[m.r.Intn(len(l))]
}

// operand returns a random valid operand for an opcode that is no jump.
func (m *maker) operand(p api.Program, op int) int {
	switch op {
	case api.OpPush:
		return m.number()
	case api.OpVar, api.OpSetVar:
		return m.r.Intn(p.Durable + p.Volatile)
	case api.OpName:
		return m.r.Intn(api.Names)
	case api.OpSend:
		return m.r.Intn(api.MaxKinds)
	case api.OpTimer, api.OpCancel:
		return m.r.Intn(api.MaxTimers)
	}
	return 0
}

// pushes tells how many values an instruction pushes.
func pushes(op int) int {
	switch op {
	case api.OpPush, api.OpVar, api.OpName, api.OpDraw, api.OpAdd, api.OpSub, api.OpMul, api.OpDiv, api.OpNeg, api.OpLt, api.OpLe, api.OpEq, api.OpNot:
		return 1
	}
	return 0
}

// opcode returns a random opcode of an instruction that can be executed with this many values on the stack.
func (m *maker) opcode(p api.Program, depth int) int {
	for {
		op := 1 + m.r.Intn(api.OpStop)
		if depth < 4 && m.r.Intn(2) == 0 {
			op = []int{api.OpPush, api.OpVar, api.OpName}[m.r.Intn(3)]
		}
		rest := depth - definedPops(op)
		noVariable := p.Durable+p.Volatile == 0 && (op == api.OpVar || op == api.OpSetVar)
		rare := (op == api.OpStop || op == api.OpJump) && m.r.Intn(4) > 0
		if rest >= 0 && rest+pushes(op) <= api.StackSize && !noVariable && !rare {
			return op
		}
	}
}

// program returns a random valid program of at most this many instructions. Every instruction has a depth of the stack with which all paths reach it; jumps lead to instructions with a suitable depth.
func (m *maker) program(length int) api.Program {
	p := program()
	p.Entry[api.OnStart] = -1
	p.Durable, p.Volatile = m.r.Intn(4), m.r.Intn(4)
	depths := []int{0}
	for range length - 1 {
		depth := depths[len(p.Code)]
		op := m.opcode(p, depth)
		p.Code = append(p.Code, api.Ins{Op: op, N: m.operand(p, op)})
		depths = append(depths, depth-definedPops(op)+pushes(op))
	}
	p.Code = append(p.Code, api.Ins{Op: api.OpStop})
	at := map[int][]int{} // the indices of instructions by their depths
	for i, depth := range depths {
		at[depth] = append(at[depth], i)
	}
	for i, in := range p.Code {
		if in.Op == api.OpJump || in.Op == api.OpUnless {
			l := at[depths[i]-definedPops(in.Op)] // not empty, because depths grow by one at most
			p.Code[i].N = l[m.r.Intn(len(l))]
		}
	}
	for range 1 + m.r.Intn(4) {
		p.Entry[m.r.Intn(api.Handlers)] = at[0][m.r.Intn(len(at[0]))]
	}
	return p
}

// input returns a random input for a program.
func (m *maker) input(p api.Program) Input {
	var in Input
	for range p.Durable + p.Volatile {
		in.Vars = append(in.Vars, m.number())
	}
	for i := range in.Names {
		in.Names[i] = m.number()
	}
	in.Names[api.NameNodes] = m.r.Intn(14) - 1
	return in
}

// answer returns a random answer, which need not be less than the number of alternatives.
func (m *maker) answer() int {
	if m.r.Intn(4) == 0 {
		return []int{math.MinInt, math.MinInt + 1, math.MaxInt - 1, math.MaxInt}[m.r.Intn(4)]
	}
	return m.number()
}

// each calls a function with random executions: a program, one of its handlers, an input and answers.
func each(t *testing.T, seed int64, count int, f func(m *maker, p api.Program, handler int, in Input, list []int)) {
	t.Helper()
	m := &maker{rand.New(rand.NewSource(seed))}
	for range count {
		p := m.program(1 + m.r.Intn(1+m.r.Intn(api.MaxCode)))
		if e := compile.Verify(p); e != api.OK {
			t.Fatalf("no valid program: %v: %v", p, e)
		}
		list := []int{m.answer(), m.answer(), m.answer(), m.answer(), m.answer()}
		for h, entry := range p.Entry {
			if entry >= 0 {
				f(m, p, h, m.input(p), list)
			}
		}
	}
}
