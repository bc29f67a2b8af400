package vm

import (
	"math"
	"slices"
	"testing"

	"simproof/api"
)

// checkStack fails the test unless these instructions, which neither ask nor act, leave a value: the failure code that is emitted next.
func checkStack(t *testing.T, in Input, want int, instructions ...[]api.Ins) {
	t.Helper()
	p := program(slices.Concat(instructions...), code(api.OpFail, 0, api.OpStop, 0))
	out, asked := checkDefined(t, p, api.OnStart, in)
	if !slices.Equal(out.Acts, []api.Act{{Kind: api.ActFail, A: want}}) || !slices.Equal(out.Vars, in.Vars) || asked != nil {
		t.Errorf("%v with %v: the output is %v with the questions %v, want the code %d", p.Code, in, out, asked, want)
	}
}

// fourVars returns an input for programs with two variables of each kind.
func fourVars() Input {
	return Input{Vars: []int{10, 11, 12, 13}, Names: [api.Names]int{20, 21, 22, 23, 24, 25, 26, 27, 28}}
}

// P9.1: the example of the chapter.
func TestExample(t *testing.T) {
	p := built(t, "volatile v; on start { v = 7 / 2; send 0, 3, v, 1; }")
	in := Input{Vars: []int{0}}
	in.Names[api.NameNodes] = 1
	out := Run(p, api.OnStart, in, func(int, int) int { return 0 })
	want := Output{Vars: []int{3}, Acts: []api.Act{{Kind: api.ActSend, B: 3, C: 3, D: 1}}, Steps: 9, Covered: []int{0, 1, 2, 3, 4, 5, 6, 7, 8}}
	if !same(out, want) {
		t.Errorf("the output is %v", out)
	}
}

// P9.1: OpPush, OpVar, OpName.
func TestPush(t *testing.T) {
	for _, n := range edges() {
		checkStack(t, fourVars(), n, code(api.OpPush, n))
	}
	for n := range 4 {
		checkStack(t, fourVars(), 10+n, code(api.OpVar, n))
	}
	names := []int{api.NameSelf, api.NameNodes, api.NameNow, api.NameFrom, api.NameA, api.NameB, api.NameID, api.NameOp, api.NameKey}
	for n, name := range names {
		checkStack(t, fourVars(), 20+n, code(api.OpName, name))
	}
	checkStack(t, fourVars(), 5, slices.Repeat(code(api.OpPush, 4), 15), code(api.OpPush, 5))
}

// P9.1: OpSetVar emits an action for durable variables only.
func TestSetVar(t *testing.T) {
	for durable := range 5 {
		for n := range 4 {
			p := program(code(api.OpPush, -9, api.OpSetVar, n, api.OpVar, n, api.OpSetVar, 3-n, api.OpStop, 0))
			p.Durable, p.Volatile = durable, 4-durable
			out, _ := checkDefined(t, p, api.OnStart, fourVars())
			var acts []api.Act
			for _, k := range []int{n, 3 - n} {
				if k < durable {
					acts = append(acts, api.Act{Kind: api.ActWrite, A: k, B: -9})
				}
			}
			vars := fourVars().Vars
			vars[n], vars[3-n] = -9, -9
			if !slices.Equal(out.Vars, vars) || !slices.Equal(out.Acts, acts) {
				t.Errorf("variable %d of %d durable ones: the output is %v", n, durable, out)
			}
		}
	}
}

// P9.1, P9.3: the results of arithmetic and of comparisons.
func TestOperations(t *testing.T) {
	for _, y := range edges() {
		for _, x := range edges() {
			for op, want := range map[int]int{
				api.OpAdd: definedArithmetic(api.OpAdd, y, x), api.OpSub: definedArithmetic(api.OpSub, y, x), api.OpMul: definedArithmetic(api.OpMul, y, x), api.OpDiv: definedArithmetic(api.OpDiv, y, x),
				api.OpLt: truth(y < x), api.OpLe: truth(y <= x), api.OpEq: truth(y == x),
			} {
				checkStack(t, fourVars(), want, code(api.OpPush, y, api.OpPush, x, op, 0))
				checkStack(t, fourVars(), 99, code(api.OpPush, 99, api.OpPush, y, api.OpPush, x, op, 0, api.OpSetVar, 3, api.OpPush, 13, api.OpSetVar, 3))
			}
		}
		checkStack(t, fourVars(), -y, code(api.OpPush, y, api.OpNeg, 0))
		checkStack(t, fourVars(), truth(y == 0), code(api.OpPush, y, api.OpNot, 0))
	}
}

// P9.1: operations at the limits, by hand.
func TestLimitedResults(t *testing.T) {
	const most = 2147483647
	for _, row := range []struct{ y, op, x, want int }{
		{most, api.OpAdd, 1, most}, {most - 1, api.OpAdd, 1, most}, {most, api.OpAdd, most, most}, {-most, api.OpAdd, -1, -most}, {-most, api.OpAdd, -most, -most}, {-most, api.OpAdd, most, 0},
		{-most, api.OpSub, 1, -most}, {1 - most, api.OpSub, 1, -most}, {most, api.OpSub, -most, most}, {most, api.OpSub, 1, most - 1}, {0, api.OpSub, most, -most}, {2, api.OpSub, 5, -3},
		{most, api.OpMul, most, most}, {most, api.OpMul, -most, -most}, {-most, api.OpMul, -most, most}, {65536, api.OpMul, 32768, most}, {65536, api.OpMul, -32768, -most}, {46341, api.OpMul, 46341, most}, {46340, api.OpMul, 46340, 2147395600}, {most, api.OpMul, -1, -most},
		{7, api.OpDiv, 2, 3}, {-7, api.OpDiv, 2, -3}, {7, api.OpDiv, -2, -3}, {-7, api.OpDiv, -2, 3}, {1, api.OpDiv, 2, 0}, {-1, api.OpDiv, 2, 0}, {5, api.OpDiv, 0, 0}, {-5, api.OpDiv, 0, 0}, {0, api.OpDiv, 0, 0}, {-most, api.OpDiv, -1, most}, {most, api.OpDiv, most, 1}, {most - 1, api.OpDiv, most, 0},
		{1, api.OpLt, 2, 1}, {2, api.OpLt, 2, 0}, {3, api.OpLt, 2, 0}, {1, api.OpLe, 2, 1}, {2, api.OpLe, 2, 1}, {3, api.OpLe, 2, 0}, {2, api.OpEq, 2, 1}, {2, api.OpEq, 3, 0}, {-most, api.OpLt, most, 1}, {most, api.OpLt, -most, 0},
	} {
		checkStack(t, fourVars(), row.want, code(api.OpPush, row.y, api.OpPush, row.x, row.op, 0))
	}
	checkStack(t, fourVars(), most, code(api.OpPush, -most, api.OpNeg, 0))
	checkStack(t, fourVars(), -most, code(api.OpPush, most, api.OpNeg, 0))
}

// P9.1: every number of alternatives with every kind of answer.
func TestDraw(t *testing.T) {
	for _, x := range edges() {
		arity := max(1, min(x, 4))
		p := program(code(api.OpPush, x, api.OpDraw, 0, api.OpFail, 0, api.OpStop, 0))
		for _, answer := range append(edges(), 8, 9, 10, -4, -5, -8, math.MinInt, math.MinInt+1, math.MinInt+2, math.MinInt+3, math.MaxInt-3, math.MaxInt-2, math.MaxInt-1, math.MaxInt) {
			out, asked := checkDefined(t, p, api.OnStart, fourVars(), answer)
			if arity == 1 {
				if asked != nil || out.Acts[0].A != 0 {
					t.Errorf("draw(%d): the output is %v with the questions %v", x, out, asked)
				}
				continue
			}
			drawn := out.Acts[0].A
			if !slices.Equal(asked, [][2]int{{0, arity}}) || drawn < 0 || drawn >= arity || (answer-drawn)%arity != 0 && answer > math.MinInt+3 {
				t.Errorf("draw(%d) with the answer %d: the output is %v with the questions %v", x, answer, out, asked)
			}
		}
	}
}

// P9.1, P9.2: only draws with a choice are asked for and counted.
func TestDraws(t *testing.T) {
	p := built(t, "on start{fail draw(3);fail draw(1);fail draw(9)*10+draw(0);fail draw(2);fail draw(-3);fail draw(4);}")
	out, asked := checkDefined(t, p, api.OnStart, Input{}, 5, -1, 3, 4)
	var codes []int
	for _, a := range out.Acts {
		codes = append(codes, a.A)
	}
	if !slices.Equal(codes, []int{2, 0, 30, 1, 0, 0}) || !slices.Equal(asked, [][2]int{{0, 3}, {1, 4}, {2, 2}, {3, 4}}) {
		t.Errorf("the codes are %v with the questions %v", codes, asked)
	}
	choices := map[int]bool{}
	for answer := range 3 {
		out := Run(built(t, "volatile v;on start{v=draw(3);}"), api.OnStart, Input{Vars: []int{7}}, func(int, int) int { return answer })
		choices[out.Vars[0]] = true
	}
	if len(choices) != 3 || !choices[0] || !choices[1] || !choices[2] {
		t.Errorf("the choices are %v", choices)
	}
}

// P9.1: the operands of the actions, and the order of the actions.
func TestActions(t *testing.T) {
	p := program(code(api.OpTimer, 7, api.OpTimer, 0, api.OpCancel, 0, api.OpCancel, 7, api.OpSync, 0, api.OpPush, 5, api.OpPush, 6, api.OpReply, 0, api.OpPush, -8, api.OpFail, 0,
		api.OpPush, 1, api.OpPush, 2, api.OpPush, 3, api.OpSend, 29, api.OpSync, 0, api.OpPush, 4, api.OpSetVar, 1, api.OpTimer, 7, api.OpStop, 0, api.OpSync, 0, api.OpStop, 0))
	out, _ := checkDefined(t, p, api.OnStart, fourVars())
	want := []api.Act{
		{Kind: api.ActTimer, A: 7}, {Kind: api.ActTimer}, {Kind: api.ActCancel}, {Kind: api.ActCancel, A: 7}, {Kind: api.ActSync}, {Kind: api.ActReply, A: 5, B: 6}, {Kind: api.ActFail, A: -8},
		{Kind: api.ActSend, A: 1, B: 29, C: 2, D: 3}, {Kind: api.ActSync}, {Kind: api.ActWrite, A: 1, B: 4}, {Kind: api.ActTimer, A: 7},
	}
	if !slices.Equal(out.Acts, want) || out.Steps != 19 || len(out.Covered) != 19 || out.Spent {
		t.Errorf("the output is %v", out)
	}
}

// P9.1, P9.3: messages are sent to nodes only.
func TestReceivers(t *testing.T) {
	for _, nodes := range []int{-api.MaxValue, -1, 0, 1, 2, 12, api.MaxValue} {
		for _, to := range append(edges(), 10, 11, 12, 13) {
			in := fourVars()
			in.Names[api.NameNodes] = nodes
			out, _ := checkDefined(t, program(code(api.OpPush, to, api.OpPush, 2, api.OpPush, 3, api.OpSend, 4, api.OpStop, 0)), api.OnStart, in)
			var want []api.Act
			if to >= 0 && to < nodes {
				want = []api.Act{{Kind: api.ActSend, A: to, B: 4, C: 2, D: 3}}
			}
			if !slices.Equal(out.Acts, want) || out.Steps != 5 {
				t.Errorf("to %d of %d nodes: the output is %v", to, nodes, out)
			}
		}
	}
}

// P9.1, P9.3: only messages that are sent count, and whatever follows the last one is executed.
func TestMessageLimit(t *testing.T) {
	for _, source := range []string{
		"volatile v;on start{while v<30{send 0,1,v,2;send 3,1,v,2;send -1,1,v,2;v=v+1;}fail 5;}",
		"volatile v;on start{while v<30{send 9,1,v,2;send 2,1,v,2;v=v+1;}fail 5;}",
	} {
		in := Input{Vars: []int{0}}
		in.Names[api.NameNodes] = 3
		out, _ := checkDefined(t, built(t, source), api.OnStart, in)
		if len(out.Acts) != 20 || sends(out.Acts) != 20 || !out.Spent { // the fuel does not suffice for the end
			t.Errorf("%q: the output is %v", source, out)
		}
		in.Vars[0] = 10
		out, _ = checkDefined(t, built(t, source), api.OnStart, in)
		if len(out.Acts) != 21 || out.Acts[20] != (api.Act{Kind: api.ActFail, A: 5}) || out.Acts[0].C != 10 || out.Acts[19].C != 29 || out.Spent {
			t.Errorf("%q from 10 on: the output is %v", source, out)
		}
	}
	p := program(slices.Repeat(code(api.OpPush, 1, api.OpPush, 1, api.OpPush, 1, api.OpSend, 0, api.OpSync, 0), 21), code(api.OpStop, 0))
	out, _ := checkDefined(t, p, api.OnStart, fourVars())
	if len(out.Acts) != 41 || sends(out.Acts) != 20 || sends(out.Acts[39:]) != 0 {
		t.Errorf("the output is %v", out)
	}
}

// P9.1: which instruction is the next one.
func TestJumps(t *testing.T) {
	for _, row := range []struct {
		code    []api.Ins
		covered []int
		steps   int
	}{
		{code(api.OpStop, 0, api.OpSync, 0), []int{0}, 1},
		{code(api.OpSync, 0, api.OpStop, 0), []int{0, 1}, 2},
		{code(api.OpJump, 2, api.OpSync, 0, api.OpStop, 0), []int{0, 2}, 2},
		{code(api.OpJump, 1, api.OpStop, 0), []int{0, 1}, 2},
		{code(api.OpJump, 3, api.OpSync, 0, api.OpStop, 0, api.OpJump, 1), []int{0, 1, 2, 3}, 4},
		{code(api.OpPush, 0, api.OpUnless, 3, api.OpSync, 0, api.OpStop, 0), []int{0, 1, 3}, 3},
		{code(api.OpPush, 1, api.OpUnless, 3, api.OpSync, 0, api.OpStop, 0), []int{0, 1, 2, 3}, 4},
		{code(api.OpPush, -1, api.OpUnless, 3, api.OpSync, 0, api.OpStop, 0), []int{0, 1, 2, 3}, 4},
		{code(api.OpPush, api.MaxValue, api.OpUnless, 3, api.OpSync, 0, api.OpStop, 0), []int{0, 1, 2, 3}, 4},
		{code(api.OpPush, 0, api.OpUnless, 2, api.OpStop, 0), []int{0, 1, 2}, 3},
		{code(api.OpPush, 1, api.OpPush, 0, api.OpUnless, 4, api.OpStop, 0, api.OpJump, 3), []int{0, 1, 2, 3, 4}, 5},
		{code(api.OpVar, 0, api.OpUnless, 7, api.OpVar, 0, api.OpPush, 1, api.OpSub, 0, api.OpSetVar, 0, api.OpJump, 0, api.OpStop, 0), []int{0, 1, 2, 3, 4, 5, 6, 7}, 73},
	} {
		p := program(row.code)
		out, _ := checkDefined(t, p, api.OnStart, fourVars())
		if !slices.Equal(out.Covered, row.covered) || out.Steps != row.steps || out.Spent {
			t.Errorf("%v: the output is %v", row.code, out)
		}
	}
}

// countdown returns nine instructions of which 7 * rounds + 4 are executed, and which leave variable 3 at 0.
func countdown(rounds int) []api.Ins {
	return code(api.OpPush, rounds, api.OpSetVar, 3, api.OpVar, 3, api.OpUnless, 9, api.OpVar, 3, api.OpPush, 1, api.OpSub, 0, api.OpSetVar, 3, api.OpJump, 2)
}

// P9.1, P9.3: the fuel ends before, at and behind a stop.
func TestFuel(t *testing.T) {
	for syncs := 88; syncs <= 104; syncs++ {
		p := program(countdown(57), slices.Repeat(code(api.OpSync, 0), syncs), code(api.OpStop, 0))
		out, _ := checkDefined(t, p, api.OnStart, fourVars())
		needed := 403 + syncs + 1
		if out.Steps != min(needed, 500) || out.Spent != (needed > 500) || len(out.Acts) != min(syncs, 97) || len(out.Covered) != 9+min(syncs+1, 97) {
			t.Errorf("%d instructions are needed: the output is %v", needed, out)
		}
	}
	if out, _ := checkDefined(t, program(slices.Repeat(code(api.OpSync, 0), 399), code(api.OpStop, 0)), api.OnStart, fourVars()); out.Steps != 400 || len(out.Covered) != 400 || len(out.Acts) != 399 || out.Spent {
		t.Errorf("as many instructions as a program may have: the output is %v", out)
	}
}

// P9.1, P9.3: the last instruction that the fuel suffices for takes effect, and the next one does not.
func TestLastInstruction(t *testing.T) {
	for before, rounds := range []int{100, 100, 99, 99, 99, 99, 99} { // how often the loop, which needs 5 instructions, gets to its end
		p := program(slices.Repeat(code(api.OpSync, 0), before), code(api.OpVar, 0, api.OpPush, 1, api.OpAdd, 0, api.OpSetVar, 0, api.OpJump, before))
		out, _ := checkDefined(t, p, api.OnStart, fourVars())
		if !out.Spent || out.Steps != 500 || len(out.Covered) != before+5 || len(out.Acts) != before+rounds || out.Vars[0] != 10+rounds {
			t.Errorf("%d instructions before the loop: the output is %v", before, out)
		}
	}
	if out, _ := checkDefined(t, program(code(api.OpJump, 0)), api.OnStart, fourVars()); !out.Spent || out.Steps != 500 || !slices.Equal(out.Covered, []int{0}) {
		t.Errorf("a jump to itself: the output is %v", out)
	}
}

// P9.1: every handler starts at its own entry.
func TestEntries(t *testing.T) {
	p := program(slices.Repeat(code(api.OpName, api.NameA, api.OpFail, 0, api.OpStop, 0), api.Handlers))
	for h := range p.Entry {
		p.Entry[h] = 3 * (api.Handlers - 1 - h)
	}
	for h, entry := range p.Entry {
		out, _ := checkDefined(t, p, h, fourVars())
		if !slices.Equal(out.Covered, []int{entry, entry + 1, entry + 2}) || out.Steps != 3 || !slices.Equal(out.Acts, []api.Act{{Kind: api.ActFail, A: 24}}) {
			t.Errorf("handler %d: the output is %v", h, out)
		}
	}
}

// P9.1: handlers that the program does not have.
func TestMissingHandlers(t *testing.T) {
	p := program(code(api.OpPush, 1, api.OpSetVar, 0, api.OpStop, 0))
	for h := range api.Handlers {
		in := fourVars()
		out, asked := checkDefined(t, p, h, in)
		if h != api.OnStart && (!same(out, Output{Vars: []int{10, 11, 12, 13}}) || asked != nil) {
			t.Errorf("handler %d: the output is %v", h, out)
		}
		if clear(out.Vars); !slices.Equal(in.Vars, []int{10, 11, 12, 13}) {
			t.Errorf("handler %d: the output shares memory with the input", h)
		}
	}
	empty := api.Program{Entry: program().Entry}
	empty.Entry[api.OnStart] = -1
	if out, _ := checkDefined(t, empty, api.OnStart, Input{}); !same(out, Output{}) {
		t.Errorf("no handlers: the output is %v", out)
	}
}

// P9.1: statements and expressions of sources.
func TestSources(t *testing.T) {
	in := Input{Vars: []int{1, 2}}
	in.Names[api.NameNodes], in.Names[api.NameSelf], in.Names[api.NameID] = 3, 1, 9
	for source, want := range map[string]Output{
		"":                              {Vars: []int{1, 2}, Steps: 1},
		"v=d+2*v-nodes;":                {Vars: []int{1, 2}, Steps: 9},
		"d=-v;d=d*d;":                   {Vars: []int{4, 2}, Acts: []api.Act{{Kind: api.ActWrite, B: -2}, {Kind: api.ActWrite, B: 4}}, Steps: 8},
		"while v<9{v=v*3;}":             {Vars: []int{1, 18}, Steps: 23},
		"if d<v&&v<1{d=7;}else{v=7;}":   {Vars: []int{1, 7}, Steps: 12},
		"if d<v||draw(2)<1{v=7;}":       {Vars: []int{1, 7}, Steps: 11},
		"if d>=v{sync;}reply id,v;":     {Vars: []int{1, 2}, Acts: []api.Act{{Kind: api.ActReply, A: 9, B: 2}}, Steps: 9},
		"send self,29,d,v;stop;fail 3;": {Vars: []int{1, 2}, Acts: []api.Act{{Kind: api.ActSend, A: 1, B: 29, C: 1, D: 2}}, Steps: 5},
	} {
		out, asked := checkDefined(t, built(t, "durable d;volatile v;on request{"+source+"}"), api.OnRequest, in)
		if out.Covered = nil; !same(out, want) || asked != nil {
			t.Errorf("%q: the output is %v with the questions %v, want %v", source, out, asked, want)
		}
	}
}

// R4: the arguments are neither modified nor kept, and results are new memory.
func TestMemory(t *testing.T) {
	p := program(code(api.OpPush, 5, api.OpSetVar, 0, api.OpPush, 6, api.OpSetVar, 3, api.OpPush, 4, api.OpDraw, 0, api.OpFail, 0, api.OpStop, 0))
	kept := slices.Clone(p.Code)
	p.Code = append(p.Code, code(99, 99, 99, 99)...)[:len(p.Code)]
	vars := []int{10, 11, 12, 13, 98, 98}
	in := Input{Vars: vars[:4]}
	ask := func(int, int) int { return 3 }
	out := Run(p, api.OnStart, in, ask)
	want := defined(p, api.OnStart, in, ask)
	if !slices.Equal(vars, []int{10, 11, 12, 13, 98, 98}) || !slices.Equal(p.Code, kept) || !slices.Equal(p.Code[:len(p.Code)+2], append(kept, code(99, 99, 99, 99)...)) {
		t.Errorf("the arguments were changed: %v, %v", vars, p.Code)
	}
	again := Run(p, api.OnStart, in, ask)
	clear(again.Vars[:cap(again.Vars)])
	clear(again.Acts[:cap(again.Acts)])
	clear(again.Covered[:cap(again.Covered)])
	clear(vars)
	clear(p.Code)
	if !same(out, want) {
		t.Errorf("the output shares memory: %v, want %v", out, want)
	}
}
