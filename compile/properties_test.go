package compile

import (
	"maps"
	"math/rand"
	"slices"
	"strconv"
	"strings"
	"testing"

	"simproof/api"
	"simproof/parser"
)

// P8.1, P8.4: random programs.
func TestRandomPrograms(t *testing.T) {
	found := map[api.Errno]int{}
	for depth := range 6 {
		each(t, int64(depth), 300, depth, func(m *maker, source string, u api.Unit) {
			found[checkDefined(t, source)]++
			source += m.text("on message 5{"+strings.Repeat("S", m.r.Intn(60))+"}", 2)
			if len(source) <= api.MaxSource {
				found[checkDefined(t, source)]++
			}
		})
	}
	if found[api.OK] < 2000 || found[api.ErrLimit] < 50 {
		t.Errorf("the results are too rare: %v", found)
	}
}

// checkDefined fails the test unless a program is compiled as the chapter's table tells, to code that is valid. It returns the error.
func checkDefined(t *testing.T, source string) api.Errno {
	t.Helper()
	p, e := Build(source)
	if want, wanted := definedCompile(parsed(t, source)); !equal(p, want) || e != wanted {
		t.Errorf("the result of %q is %q, %v, want %q, %v", source, show(p), e, show(want), wanted)
	}
	if e == api.OK {
		checkVerify(t, p, api.OK)
	}
	return e
}

// P8.1, P8.4: random expressions that are nested so deeply that the stack may not suffice.
func TestRandomDeepExpressions(t *testing.T) {
	found := map[api.Errno]int{}
	m := &maker{rand.New(rand.NewSource(10))}
	for range 5000 {
		source := m.oneOf("fail @;", "if 1<@{}", "if true&&@<1{}", "stop;fail @;", "if true{stop;}fail @;", "send 1,2,3,@;", "while true||1==@{}")
		for range 17 {
			inner := "1" + m.oneOf("+", "-", "*", "/") + "(@)"
			if m.r.Intn(8) == 0 {
				inner = m.oneOf("(@)-1", "draw(@)", "-@")
			}
			source = strings.ReplaceAll(source, "@", inner)
		}
		found[checkDefined(t, "on start{"+strings.ReplaceAll(source, "@", "1")+"}")]++
	}
	if found[api.OK] < 1000 || found[api.ErrStack] < 1000 {
		t.Errorf("the results are too rare: %v", found)
	}
}

// effects records what the execution of a handler does. All executions draw the same numbers.
type effects struct {
	trace []string
	vars  []int
	draws int
	fuel  int // how many steps are left
}

// spent ends an execution that has no fuel left, and stopped one that stops.
type spent struct{}
type stopped struct{}

// step uses up fuel.
func (x *effects) step() {
	if x.fuel--; x.fuel < 0 {
		panic(spent{})
	}
}

// did records an effect.
func (x *effects) did(what string, numbers ...int) {
	for _, n := range numbers {
		what += " " + strconv.Itoa(n)
	}
	x.trace = append(x.trace, what)
}

// draw returns a number less than the number of alternatives.
func (x *effects) draw(arity int) int {
	x.draws++
	answer := x.draws * x.draws % 7 % max(1, min(arity, 4))
	x.did("draw", arity, answer)
	return answer
}

// read returns the value of a variable.
func (x *effects) read(k int) int {
	x.did("read", k)
	return x.vars[k]
}

// name returns a built-in value.
func (x *effects) name(k int) int {
	x.did("name", k)
	return k*3 - 5
}

// write sets a variable.
func (x *effects) write(k, value int) {
	x.did("write", k, value)
	x.vars[k] = value
}

// compute returns the result of an arithmetic operation.
func compute(op string, a, b int) int {
	switch op {
	case "+":
		a += b
	case "-":
		a -= b
	case "*":
		a *= b
	case "/":
		if b == 0 {
			return 0
		}
		a /= b
	}
	return max(-api.MaxValue, min(a, api.MaxValue))
}

// finish runs an execution to its end, and reports whether the fuel sufficed.
func finish(execute func()) (ended bool) {
	defer func() {
		switch r := recover().(type) {
		case nil, stopped:
			ended = true
		case spent:
			ended = false
		default:
			panic(r)
		}
	}()
	execute()
	return true
}

// walker evaluates syntax trees.
type walker struct {
	effects
	unit api.Unit
}

// truth returns the number that stands for a truth value.
func truth(b bool) int {
	if b {
		return 1
	}
	return 0
}

// value evaluates an expression.
func (w *walker) value(n api.Node) int {
	w.step()
	switch n.Kind {
	case api.NodeInt, api.NodeBool:
		return n.N
	case api.NodeVar:
		return w.read(nameNumber(w.unit, n))
	case api.NodeName:
		return w.name(nameNumber(w.unit, n))
	case api.NodeDraw:
		return w.draw(w.value(n.Kids[0]))
	case api.NodeUnary:
		x := w.value(n.Kids[0])
		if n.S == "!" {
			return 1 - x
		}
		return -x
	}
	x := w.value(n.Kids[0])
	if n.S == "&&" && x == 0 || n.S == "||" && x == 1 {
		return x
	}
	y := w.value(n.Kids[1])
	switch n.S {
	case "&&", "||":
		return y
	case "<":
		return truth(x < y)
	case "<=":
		return truth(x <= y)
	case ">":
		return truth(x > y)
	case ">=":
		return truth(x >= y)
	case "==":
		return truth(x == y)
	case "!=":
		return truth(x != y)
	}
	return compute(n.S, x, y)
}

// execute executes a statement.
func (w *walker) execute(n api.Node) {
	w.step()
	switch n.Kind {
	case api.NodeBlock:
		for _, kid := range n.Kids {
			w.execute(kid)
		}
	case api.NodeIf:
		w.execute(n.Kids[2-w.value(n.Kids[0])])
	case api.NodeWhile:
		for w.value(n.Kids[0]) == 1 {
			w.execute(n.Kids[1])
		}
	case api.NodeStop:
		panic(stopped{})
	default:
		var l []int
		for _, kid := range n.Kids {
			l = append(l, w.value(kid))
		}
		w.act(n, l)
	}
}

// act performs a statement whose values were computed.
func (w *walker) act(n api.Node, values []int) {
	switch n.Kind {
	case api.NodeAssign:
		w.write(nameNumber(w.unit, n), values[0])
	case api.NodeSend:
		w.did("send", append(values, n.N)...)
	case api.NodeTimer:
		w.did("timer", n.N)
	case api.NodeCancel:
		w.did("cancel", n.N)
	case api.NodeSync:
		w.did("sync")
	case api.NodeReply:
		w.did("reply", values...)
	case api.NodeFail:
		w.did("fail", values...)
	}
}

// machine executes bytecode.
type machine struct {
	effects
	stack []int
}

// pop removes values from the stack and returns them, the last one being that on the top.
func (m *machine) pop(count int) []int {
	rest := len(m.stack) - count
	l := slices.Clone(m.stack[rest:])
	m.stack = m.stack[:rest]
	return l
}

// run executes the code from an entry.
func (m *machine) run(p api.Program, at int) {
	for {
		m.step()
		in := p.Code[at]
		name := opcodeName(in.Op)
		l := m.pop(stackUses[name][0])
		at++
		switch name {
		case "stop":
			return
		case "jump":
			at = in.N
		case "unless":
			if l[0] == 0 {
				at = in.N
			}
		case "set":
			m.write(in.N, l[0])
		case "send":
			m.did(name, append(l, in.N)...)
		case "timer", "cancel":
			m.did(name, in.N)
		case "sync", "reply", "fail":
			m.did(name, l...)
		default:
			m.stack = append(m.stack, m.result(name, in.N, l))
		}
	}
}

// result returns the value that an instruction pushes.
func (m *machine) result(name string, operand int, l []int) int {
	switch name {
	case "push":
		return operand
	case "var":
		return m.read(operand)
	case "name":
		return m.name(operand)
	case "draw":
		return m.draw(l[0])
	case "neg":
		return -l[0]
	case "not":
		return truth(l[0] == 0)
	case "lt":
		return truth(l[0] < l[1])
	case "le":
		return truth(l[0] <= l[1])
	case "eq":
		return truth(l[0] == l[1])
	}
	symbols := map[string]string{"add": "+", "sub": "-", "mul": "*", "div": "/"}
	return compute(symbols[name], l[0], l[1])
}

// checkEffects fails the test unless the code of a handler has the same effects as its tree. It returns the effects, and whether the execution ended.
func checkEffects(t *testing.T, source string, u api.Unit, p api.Program, h api.Handler) (effects, bool) {
	t.Helper()
	w := walker{effects{vars: []int{1, 0, 2, 0}, fuel: 2000}, u}
	m := machine{effects: effects{vars: []int{1, 0, 2, 0}, fuel: 2000}}
	walked := finish(func() { w.execute(h.Body) })
	ran := finish(func() { m.run(p, p.Entry[h.Number]) })
	// What was cut off is compared as far as it goes.
	n := min(len(w.trace), len(m.trace))
	if !slices.Equal(w.trace[:n], m.trace[:n]) || walked && n < len(m.trace) || ran && n < len(w.trace) || walked && ran && !slices.Equal(w.vars, m.vars) {
		t.Errorf("handler %d of %q: the tree has the effects %q and leaves %v, the code %q and %v", h.Number, source, w.trace, w.vars, m.trace, m.vars)
	}
	return w.effects, walked && ran
}

// P8.5: the effects of random programs.
func TestEffects(t *testing.T) {
	kinds, ended := map[string]int{}, 0
	each(t, 11, 3000, 4, func(_ *maker, source string, u api.Unit) {
		p, e := Compile(u)
		if e != api.OK {
			return
		}
		for _, h := range u.On {
			x, whole := checkEffects(t, source, u, p, h)
			ended += truth(whole)
			for _, line := range x.trace {
				kinds[strings.Fields(line)[0]]++
			}
		}
	})
	if len(kinds) != 10 || slices.Min(slices.Collect(maps.Values(kinds))) < 500 || ended < 2000 {
		t.Errorf("the effects are too rare: %v, and %d executions ended", kinds, ended)
	}
}

// P8.5: the right operand of && and || is evaluated only if the left one does not decide.
func TestRightOperands(t *testing.T) {
	for condition, want := range map[string]string{
		"false&&draw(2)<2": "", "true&&draw(3)<3": "draw 3 1|sync", "true||draw(2)<2": "sync", "false||draw(3)<0": "draw 3 1",
		"false&&draw(2)<2||draw(4)<4": "draw 4 1|sync", "(true||draw(2)<2)&&draw(3)>3": "draw 3 1", "!(true||draw(2)<2)||draw(3)==1": "draw 3 1|sync",
		"draw(2)<0&&draw(3)<3": "draw 2 1", "draw(2)<2||draw(3)<3": "draw 2 1|sync", "draw(2)<2&&draw(3)<3": "draw 2 1|draw 3 1|sync",
	} {
		source := "volatile p,q,r,s;on start{if " + condition + "{sync;}}"
		u := parsed(t, source)
		p, e := Compile(u)
		x, ended := checkEffects(t, source, u, p, u.On[0])
		if got := strings.Join(x.trace, "|"); got != want || !ended || e != api.OK {
			t.Errorf("the effects of %q are %q, %v, want %q", condition, got, e, want)
		}
	}
}

// P8.6: the canonical source of a program has the same code.
func TestPrintedPrograms(t *testing.T) {
	each(t, 12, 2000, 4, func(_ *maker, source string, u api.Unit) {
		p, e := Build(source)
		if q, f := Build(parser.Print(u)); !equal(p, q) || e != f {
			t.Errorf("the code of %q is %q, %v, and %q, %v after printing", source, show(p), e, show(q), f)
		}
	})
}

// code returns the code of a handler with its jumps relative to its entry.
func code(p api.Program, h int) []api.Ins {
	from, to := p.Entry[h], len(p.Code)
	if from < 0 {
		return nil
	}
	for _, entry := range p.Entry {
		if entry > from {
			to = min(to, entry)
		}
	}
	l := slices.Clone(p.Code[from:to])
	for i, in := range l {
		if name := opcodeName(in.Op); name == "jump" || name == "unless" {
			l[i].N -= from
		}
	}
	return l
}

// P8.6: more handlers only move the code of the others.
func TestMoreHandlers(t *testing.T) {
	moved := 0
	each(t, 13, 2000, 4, func(m *maker, source string, u api.Unit) {
		all, e := Compile(u)
		less := u
		less.On = nil
		for _, h := range u.On {
			if m.r.Intn(2) == 0 {
				less.On = append(less.On, h)
			}
		}
		some, f := Compile(less)
		if e != api.OK {
			return
		}
		if f != api.OK {
			t.Errorf("a part of the handlers of %q has the error %v", source, f)
		}
		for _, h := range less.On {
			moved += truth(some.Entry[h.Number] != all.Entry[h.Number])
			if !slices.Equal(code(some, h.Number), code(all, h.Number)) {
				t.Errorf("the code of handler %d of %q is %v, and %v alone", h.Number, source, code(all, h.Number), code(some, h.Number))
			}
		}
	})
	if moved < 200 {
		t.Errorf("only %d handlers were moved", moved)
	}
}
