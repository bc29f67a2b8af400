package vm

import (
	"cmp"

	"simproof/api"
)

// effect is what an instruction with some opcode and this operand does.
type effect func(m *machine, operand int)

// machine is an execution of a handler.
type machine struct {
	effects [api.OpStop + 1]effect // by the opcodes
	ask     func(index, arity int) int
	names   [api.Names]int
	durable int // how many of the variables are durable; they come first
	vars    []int
	stack   []int
	next    int // the index of the next instruction
	stopped bool
	asked   int // how often ask was called
	sent    int // how many messages were sent
	acts    []api.Act
}

// effects returns the effects of instructions by their opcodes.
func effects() [api.OpStop + 1]effect {
	return [api.OpStop + 1]effect{
		api.OpPush:   (*machine).push,
		api.OpVar:    func(m *machine, n int) { m.push(m.vars[n]) },
		api.OpSetVar: (*machine).set,
		api.OpName:   func(m *machine, n int) { m.push(m.names[n]) },
		api.OpDraw:   (*machine).draw,
		api.OpAdd:    func(m *machine, _ int) { y, x := m.pair(); m.pushLimited(y + x) },
		api.OpSub:    func(m *machine, _ int) { y, x := m.pair(); m.pushLimited(y - x) },
		api.OpMul:    func(m *machine, _ int) { y, x := m.pair(); m.pushLimited(y * x) },
		api.OpDiv:    (*machine).divide,
		api.OpNeg:    func(m *machine, _ int) { m.push(-m.pop()) },
		api.OpLt:     func(m *machine, _ int) { y, x := m.pair(); m.pushTruth(y < x) },
		api.OpLe:     func(m *machine, _ int) { y, x := m.pair(); m.pushTruth(y <= x) },
		api.OpEq:     func(m *machine, _ int) { y, x := m.pair(); m.pushTruth(y == x) },
		api.OpNot:    func(m *machine, _ int) { m.pushTruth(m.pop() == 0) },
		api.OpJump:   (*machine).jump,
		api.OpUnless: (*machine).jumpUnless,
		api.OpSend:   (*machine).send,
		api.OpTimer:  func(m *machine, n int) { m.act(api.Act{Kind: api.ActTimer, A: n}) },
		api.OpCancel: func(m *machine, n int) { m.act(api.Act{Kind: api.ActCancel, A: n}) },
		api.OpSync:   func(m *machine, _ int) { m.act(api.Act{Kind: api.ActSync}) },
		api.OpReply:  (*machine).reply,
		api.OpFail:   func(m *machine, _ int) { m.act(api.Act{Kind: api.ActFail, A: m.pop()}) },
		api.OpStop:   func(m *machine, _ int) { m.stopped = true },
	}
}

// run executes instructions until one of them stops the execution or the fuel is spent.
func (m *machine) run(code []api.Ins) Output {
	executed := make([]bool, len(code))
	steps := 0
	for ; !m.stopped && steps < api.MaxFuel; steps++ {
		in := code[m.next]
		executed[m.next] = true
		m.next++ // first, because the effect may be a jump
		m.effects[in.Op](m, in.N)
	}
	return Output{Vars: m.vars, Acts: m.acts, Steps: steps, Spent: !m.stopped, Covered: marked(executed)}
}

// marked returns the indices of the elements that are true.
func marked(l []bool) []int {
	var indices []int
	for i, mark := range l {
		if mark {
			indices = append(indices, i)
		}
	}
	return indices
}

// limit returns the number of a range that is closest to x.
func limit[T cmp.Ordered](x, least, most T) T { return max(least, min(x, most)) }

// push pushes a number.
func (m *machine) push(x int) { m.stack = append(m.stack, x) }

// pushLimited pushes the result of an arithmetic operation.
func (m *machine) pushLimited(x int64) { m.push(int(limit(x, -api.MaxValue, api.MaxValue))) }

// pushTruth pushes the number that stands for a truth value.
func (m *machine) pushTruth(b bool) {
	if b {
		m.push(1)
	} else {
		m.push(0)
	}
}

// pop pops a number.
func (m *machine) pop() int {
	top := len(m.stack) - 1
	x := m.stack[top]
	m.stack = m.stack[:top]
	return x
}

// pair pops two numbers and returns them in the order in which they were pushed. Operations on them cannot overflow: even the product of the greatest numbers has less than 63 bits.
func (m *machine) pair() (y, x int64) {
	x = int64(m.pop())
	return int64(m.pop()), x
}

// divide pushes a quotient, which is never out of range.
func (m *machine) divide(int) {
	y, x := m.pair()
	if x == 0 {
		m.push(0)
		return
	}
	m.push(int(y / x))
}

// jump continues at a target.
func (m *machine) jump(target int) { m.next = target }

// jumpUnless continues at a target if the condition is false.
func (m *machine) jumpUnless(target int) {
	if m.pop() == 0 {
		m.jump(target)
	}
}

// draw pushes the answer to a question, which is asked only if there is a choice.
func (m *machine) draw(int) {
	arity := limit(m.pop(), 1, api.MaxArity)
	if arity == 1 {
		m.push(0)
		return
	}
	answer := m.ask(m.asked, arity) % arity
	m.asked++
	if answer < 0 { // % keeps the sign of the answer
		answer += arity
	}
	m.push(answer)
}

// act emits an action.
func (m *machine) act(a api.Act) { m.acts = append(m.acts, a) }

// set changes a variable.
func (m *machine) set(variable int) {
	x := m.pop()
	m.vars[variable] = x
	if variable < m.durable {
		m.act(api.Act{Kind: api.ActWrite, A: variable, B: x})
	}
}

// send sends a message, if there is such a node and not too many messages were sent.
func (m *machine) send(kind int) {
	x, y, to := m.pop(), m.pop(), m.pop()
	if to >= 0 && to < m.names[api.NameNodes] && m.sent < api.MaxSends {
		m.sent++
		m.act(api.Act{Kind: api.ActSend, A: to, B: kind, C: y, D: x})
	}
}

// reply replies to a request.
func (m *machine) reply(int) {
	value, request := m.pop(), m.pop()
	m.act(api.Act{Kind: api.ActReply, A: request, B: value})
}
