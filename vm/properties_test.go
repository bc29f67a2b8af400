package vm

import (
	"maps"
	"math"
	"math/rand"
	"slices"
	"testing"

	"simproof/api"
	"simproof/compile"
	"simproof/parser"
)

// P9.1: random programs.
func TestRandomPrograms(t *testing.T) {
	executed, spent, asked := map[int]int{}, 0, 0
	each(t, 1, 10000, func(m *maker, p api.Program, handler int, in Input, list []int) {
		out, questions := checkDefined(t, p, handler, in, list...)
		asked += len(questions)
		spent += truth(out.Spent)
		for _, at := range out.Covered {
			executed[p.Code[at].Op]++
		}
	})
	if len(executed) != api.OpStop || slices.Min(slices.Collect(maps.Values(executed))) < 1000 || spent < 1000 || asked < 1000 {
		t.Errorf("the executions are too rare: %v, %d that spend the fuel, %d questions", executed, spent, asked)
	}
}

// P9.2: which questions are asked, and that earlier executions and whatever the program has besides the executed code change nothing.
func TestDeterminism(t *testing.T) {
	changed := 0
	each(t, 2, 5000, func(m *maker, p api.Program, handler int, in Input, list []int) {
		first := answers{list: list}
		out := Run(p, handler, in, first.ask)
		for i, question := range first.asked {
			if question[0] != i || question[1] < 2 || question[1] > api.MaxArity {
				t.Errorf("the questions are %v", first.asked)
			}
		}
		Run(m.program(20), api.OnStart, Input{Vars: make([]int, 8)}, first.ask)
		q := p
		q.Code = slices.Clone(p.Code)
		for i := range q.Code {
			if !slices.Contains(out.Covered, i) {
				q.Code[i] = api.Ins{Op: api.OpStop}
				changed++
			}
		}
		for h := range q.Entry {
			if h != handler {
				q.Entry[h] = -1
			}
		}
		// Only the remainders of the answers matter.
		reduced := func(index, arity int) int {
			return (list[index%len(list)]%arity + arity) % arity
		}
		if again := Run(q, handler, in, reduced); !same(out, again) {
			t.Errorf("handler %d of %v with %v and the answers %v: the output is %v, and %v later", handler, p, in, list, out, again)
		}
	})
	if changed < 10000 {
		t.Errorf("only %d instructions were changed", changed)
	}
}

// inRange reports whether all numbers are allowed.
func inRange(numbers ...int) bool {
	return !slices.ContainsFunc(numbers, func(n int) bool { return n < -2147483647 || n > 2147483647 })
}

// P9.3: the limits of executions.
func TestLimits(t *testing.T) {
	most, atLimit := 0, 0
	each(t, 3, 10000, func(m *maker, p api.Program, handler int, in Input, list []int) {
		asked := answers{list: list}
		out := Run(p, handler, in, asked.ask)
		if out.Steps < 1 || out.Steps > 500 || len(out.Covered) > out.Steps || len(out.Acts) > out.Steps || sends(out.Acts) > 20 || !inRange(out.Vars...) {
			t.Errorf("handler %d of %v with %v and the answers %v: the output is %v", handler, p, in, list, out)
		}
		for _, a := range out.Acts {
			if a.Kind == api.ActSend && (a.A < 0 || a.A >= in.Names[api.NameNodes]) || !inRange(a.A, a.B, a.C, a.D) {
				t.Errorf("handler %d of %v with %v and the answers %v emits %v", handler, p, in, list, a)
			}
			atLimit += truth(a.A == api.MaxValue || a.A == -api.MaxValue || a.B == api.MaxValue || a.B == -api.MaxValue)
		}
		most += truth(sends(out.Acts) == 20)
	})
	if most < 20 || atLimit < 1000 {
		t.Errorf("%d executions sent as many messages as possible, and %d actions had numbers at the limit", most, atLimit)
	}
}

// P9.4: the durable variables are those that the actions write.
func TestWrites(t *testing.T) {
	writes := 0
	each(t, 4, 5000, func(m *maker, p api.Program, handler int, in Input, list []int) {
		asked := answers{list: list}
		out := Run(p, handler, in, asked.ask)
		vars := slices.Clone(in.Vars[:p.Durable])
		for _, a := range out.Acts {
			if a.Kind == api.ActWrite {
				vars[a.A] = a.B
				writes++
			}
		}
		if !slices.Equal(vars, out.Vars[:p.Durable]) {
			t.Errorf("handler %d of %v with %v and the answers %v: the actions write %v, the output is %v", handler, p, in, list, vars, out)
		}
	})
	if writes < 1000 {
		t.Errorf("there are only %d writes", writes)
	}
}

// P9.5: more instructions before and behind the code, with more handlers, change only the indices.
func TestMoreCode(t *testing.T) {
	compared := 0
	each(t, 5, 10000, func(m *maker, p api.Program, handler int, in Input, list []int) {
		other := m.program(1 + m.r.Intn(50))
		before := len(other.Code)
		if before+len(p.Code)+2 > api.MaxCode {
			return
		}
		q := api.Program{Code: slices.Concat(other.Code, p.Code, code(api.OpSync, 0, api.OpStop, 0)), Entry: other.Entry, Durable: max(p.Durable, other.Durable)}
		q.Volatile = max(p.Durable+p.Volatile, other.Durable+other.Volatile) - q.Durable
		if q.Durable != p.Durable || q.Volatile != p.Volatile {
			return
		}
		for i := range p.Code {
			if in := &q.Code[before+i]; in.Op == api.OpJump || in.Op == api.OpUnless {
				in.N += before
			}
		}
		q.Entry[handler] = p.Entry[handler] + before
		free := slices.Index(q.Entry[:], -1)
		q.Entry[free] = len(q.Code) - 2
		compared++
		checkMoved(t, p, q, handler, in, list)
	})
	if compared < 1000 {
		t.Errorf("only %d executions were compared", compared)
	}
}

// checkMoved fails the test unless the executions of a handler of two programs differ only in the indices of the instructions.
func checkMoved(t *testing.T, p, q api.Program, handler int, in Input, list []int) {
	t.Helper()
	if e := compile.Verify(q); e != api.OK {
		t.Fatalf("no valid program: %v: %v", q, e)
	}
	one, two := answers{list: list}, answers{list: list}
	a, b := Run(p, handler, in, one.ask), Run(q, handler, in, two.ask)
	for i := range a.Covered {
		a.Covered[i] += q.Entry[handler] - p.Entry[handler]
	}
	if !same(a, b) || !slices.Equal(one.asked, two.asked) {
		t.Errorf("handler %d of %v and of %v with %v and the answers %v: the outputs are %v with the questions %v, and %v with %v", handler, p, q, in, list, a, one.asked, b, two.asked)
	}
}

// P9.5: handlers of sources that are removed.
func TestRemovedHandlers(t *testing.T) {
	unit, _, e := parser.Parse("durable d;volatile v,w;on start{v=draw(3);w=5;timer 1;}on request{d=a*2+v;while w>0{send draw(nodes),2,w,d;w=w-1;}sync;reply id,d;}on timer 1{if v<draw(9)&&d!=4||now>3{v=v+1;}else{fail v;}}on message 2{v=a-b;while true{v=v+from;}}on message 29{stop;}")
	if e != api.OK {
		t.Fatal(e)
	}
	all, _ := compile.Compile(unit)
	m := &maker{rand.New(rand.NewSource(6))}
	for set := range 1 << len(unit.On) {
		less := unit
		less.On = nil
		for i, h := range unit.On {
			if set>>i&1 == 1 {
				less.On = append(less.On, h)
			}
		}
		some, e := compile.Compile(less)
		if e != api.OK {
			t.Fatal(e)
		}
		for range 20 {
			list := []int{m.answer(), m.answer(), m.answer()}
			for _, h := range less.On {
				checkMoved(t, some, all, h.Number, m.input(all), list)
			}
		}
	}
}

// P9.6: the entry is covered, and a stop unless the fuel is spent.
func TestCovered(t *testing.T) {
	ended := 0
	each(t, 7, 5000, func(m *maker, p api.Program, handler int, in Input, list []int) {
		asked := answers{list: list}
		out := Run(p, handler, in, asked.ask)
		isStop := func(at int) bool { return p.Code[at].Op == api.OpStop }
		if !slices.Contains(out.Covered, p.Entry[handler]) || slices.ContainsFunc(out.Covered, isStop) == out.Spent {
			t.Errorf("handler %d of %v with %v and the answers %v: the output is %v", handler, p, in, list, out)
		}
		for i := 1; i < len(out.Covered); i++ {
			if out.Covered[i] <= out.Covered[i-1] {
				t.Errorf("the covered instructions are not in increasing order: %v", out.Covered)
			}
		}
		ended += truth(!out.Spent)
	})
	if ended < 2000 {
		t.Errorf("only %d executions ended", ended)
	}
}

// Where the chapter promises nothing, there is no panic either: programs that Verify rejects, other handlers, too few variables, and questions that cannot be answered.
func TestOtherArguments(t *testing.T) {
	r := rand.New(rand.NewSource(8))
	wild := func() int { return r.Int() >> r.Intn(64) * (1 - 2*r.Intn(2)) }
	none := func(int, int) int { return 0 }
	for range 50000 {
		p := api.Program{Durable: wild(), Volatile: wild(), Code: make([]api.Ins, r.Intn(20))}
		for h := range p.Entry {
			p.Entry[h] = []int{r.Intn(20), wild()}[r.Intn(2)]
		}
		for i := range p.Code {
			p.Code[i] = api.Ins{Op: r.Intn(api.OpStop + 2), N: []int{r.Intn(8), wild()}[r.Intn(2)]}
		}
		in := Input{Vars: []int{wild(), wild(), wild()}[:r.Intn(4)]}
		for i := range in.Names {
			in.Names[i] = wild()
		}
		if out := Run(p, r.Intn(api.Handlers), in, none); out.Steps > api.MaxFuel {
			t.Fatalf("%v with %v: the output is %v", p, in, out)
		}
	}
	p := program(code(api.OpPush, 1, api.OpSetVar, 3, api.OpPush, 2, api.OpDraw, 0, api.OpFail, 0, api.OpStop, 0))
	for _, h := range []int{math.MinInt, -1, api.OnCrash, api.Handlers + 1, math.MaxInt} {
		if out := Run(p, h, fourVars(), none); !same(out, Output{Vars: fourVars().Vars}) {
			t.Errorf("handler %d: the output is %v", h, out)
		}
	}
	for _, out := range []Output{
		Run(p, api.OnStart, Input{Vars: []int{1, 2, 3}}, none),
		Run(p, api.OnStart, fourVars(), nil),
		Run(p, api.OnStart, fourVars(), func(int, int) int { panic("no answer") }),
		Run(program(code(api.OpAdd, 0, api.OpStop, 0)), api.OnStart, fourVars(), none),
		Run(program(code(0, 0, api.OpStop, 0)), api.OnStart, fourVars(), none),
		Run(program(code(api.OpStop+1, 0, api.OpStop, 0)), api.OnStart, fourVars(), none),
		Run(program(code(api.OpSync, 0)), api.OnStart, fourVars(), none),
	} {
		if !same(out, Output{}) {
			t.Errorf("invalid arguments: the output is %v", out)
		}
	}
}
