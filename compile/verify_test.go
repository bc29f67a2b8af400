package compile

import (
	"math"
	"math/rand"
	"slices"
	"strconv"
	"strings"
	"testing"

	"simproof/api"
)

// checkVerify fails the test unless Verify returns this error.
func checkVerify(t *testing.T, p api.Program, want api.Errno) {
	t.Helper()
	if got := Verify(p); got != want {
		t.Errorf("the error of %.300q with the entries %v and %d and %d variables is %v, want %v", show(p), p.Entry, p.Durable, p.Volatile, got, want)
	}
}

// P8.3: the number of instructions comes first, whatever they are.
func TestCodeLimit(t *testing.T) {
	for _, words := range []string{"stop ", "push 0 ", "add ", "jump 400 ", "var 9 "} {
		p := program(strings.Repeat(words, 401), 0, -2)
		p.Durable = -1
		checkVerify(t, p, api.ErrLimit)
	}
	checkVerify(t, program(strings.Repeat("stop ", 400), 0, 399), api.OK)
	checkVerify(t, program(strings.Repeat("stop ", 401), 0, 400), api.ErrLimit)
	checkVerify(t, program(strings.Repeat("stop ", 399)+"jump 399", 399), api.OK)
	checkVerify(t, program(strings.Repeat("sync ", 399)+"stop", 0), api.OK)
}

// P8.3: the numbers of variables, also if their sum overflows.
func TestVariables(t *testing.T) {
	numbers := []int{math.MinInt, -17, -16, -1, 0, 1, 8, 15, 16, 17, 32, math.MaxInt - 16, math.MaxInt - 1, math.MaxInt}
	for _, durable := range numbers {
		for _, volatile := range numbers {
			p := program("stop", 0)
			p.Durable, p.Volatile = durable, volatile
			want := api.ErrCode
			if durable >= 0 && volatile >= 0 && durable <= 16 && volatile <= 16 && durable+volatile <= 16 {
				want = api.OK
			}
			checkVerify(t, p, want)
		}
	}
}

// P8.3: opcodes and operands, of instructions that are reachable or not.
func TestOperands(t *testing.T) {
	numbers := []int{math.MinInt, -1 << 32, -1 << 31, -1<<31 + 1, -2, -1, 0, 1, 2, 3, 4, 5, 6, 7, 8, 9, 10, 16, 28, 29, 30, 31, 39, 40, 400, 1<<31 - 1, 1 << 31, 1 << 32, math.MaxInt}
	valid := 0
	for _, op := range append(slices.Clone(numbers), 11, 12, 13, 14, 15, 17, 18, 19, 20, 21, 22, 23, 24, 25) {
		for _, n := range numbers {
			p := program("push 0 push 0 push 0 sync stop", 0)
			p.Code[3] = api.Ins{Op: op, N: n}
			want := definedVerify(p)
			checkVerify(t, p, want)
			p.Entry[0] = 4
			wanted := api.OK
			if opcodeName(op) == "" || !definedOperand(p, p.Code[3]) {
				wanted = api.ErrCode
			} else {
				valid++
			}
			checkVerify(t, p, wanted)
		}
	}
	if want := 15 + 7 + 4 + 4 + 9 + 15 + 5 + 5 + 8 + 8; valid < want {
		t.Errorf("%d instructions are valid, want at least %d", valid, want)
	}
}

// P8.3: operands of variables depend on the numbers of variables of both kinds.
func TestVariableOperands(t *testing.T) {
	for durable := range 17 {
		for volatile := range 17 - durable {
			for n := -1; n <= 17; n++ {
				for _, words := range []string{"stop var ", "stop set "} {
					p := program(words+strconv.Itoa(n), 0)
					p.Durable, p.Volatile = durable, volatile
					want := api.ErrCode
					if n >= 0 && n < durable+volatile {
						want = api.OK
					}
					checkVerify(t, p, want)
				}
			}
		}
	}
}

// P8.3: the entries of all handlers.
func TestEntries(t *testing.T) {
	for h := range api.Handlers {
		for _, entry := range []int{math.MinInt, -2, -1, 0, 1, 2, 3, 4, 400, math.MaxInt} {
			p := program("stop add stop")
			p.Entry[h] = entry
			want := api.ErrCode
			switch entry {
			case -1, 0, 2:
				want = api.OK
			case 1:
				want = api.ErrStack
			}
			checkVerify(t, p, want)
		}
	}
	checkVerify(t, program(""), api.OK)
	checkVerify(t, program("", 0), api.ErrCode)
	checkVerify(t, api.Program{}, api.ErrCode)
}

// P8.3: a path must not lead behind the last instruction.
func TestLastInstruction(t *testing.T) {
	for words, want := range map[string]api.Errno{
		"sync": api.ErrCode, "push 1": api.ErrCode, "unless 0": api.ErrCode, "stop": api.OK, "jump 0": api.OK, "add": api.ErrCode,
		"push 1 unless 0": api.ErrCode, "jump 0 sync": api.OK, "stop unless 0": api.OK, "stop add": api.OK, "push 1 unless 3 stop sync": api.ErrCode,
		"jump 1 sync": api.ErrCode, "jump 2 sync stop": api.OK, "push 0 unless 3 jump 0 jump 2": api.OK,
		// The end is reachable only over instructions that lack values.
		"add sync": api.ErrCode, "send 0 unless 0": api.ErrCode,
	} {
		checkVerify(t, program(words, 0), want)
		checkVerify(t, program(words), api.OK)
		checkVerify(t, program(words+" stop", -1, len(program(words).Code)), api.OK)
	}
	// A path of one handler comes before the stack of another one.
	checkVerify(t, program("add stop sync", 0, 2), api.ErrCode)
	checkVerify(t, program("add stop sync", 0), api.ErrStack)
}

// P8.3: every instruction with every depth of the stack.
func TestStackUse(t *testing.T) {
	for _, name := range opcodes {
		pops, pushes := stackUses[name][0], stackUses[name][1]
		for depth := range 18 {
			words := strings.Repeat("push 0 ", depth) + name
			if name == "jump" || name == "unless" {
				words += " " + strconv.Itoa(depth+1)
			} else if hasOperand(name) {
				words += " 0"
			}
			want := api.OK
			if depth < pops || depth-pops+pushes > 16 || depth > 16 {
				want = api.ErrStack
			}
			checkVerify(t, program(words+" stop", 0), want)
			rest := depth - pops + pushes
			if want == api.OK && name != "stop" {
				checkVerify(t, program(words+strings.Repeat(" push 0", 16-rest)+" stop", 0), api.OK)
				checkVerify(t, program(words+strings.Repeat(" push 0", 17-rest)+" stop", 0), api.ErrStack)
				checkVerify(t, program(words+strings.Repeat(" fail", rest)+" stop", 0), api.OK)
				checkVerify(t, program(words+strings.Repeat(" fail", rest+1)+" stop", 0), api.ErrStack)
			}
		}
	}
}

// P8.3: the depths on two paths from the same entry.
func TestDepths(t *testing.T) {
	for words, want := range map[string]api.Errno{
		"push 0 unless 3 push 0 stop":                   api.ErrStack,
		"push 0 unless 3 sync stop":                     api.OK,
		"push 0 unless 4 push 1 stop push 2 stop":       api.OK,
		"push 0 unless 4 push 1 jump 5 push 2 stop":     api.OK,
		"push 0 unless 4 push 1 jump 5 sync stop":       api.ErrStack,
		"push 0 unless 2 stop":                          api.OK,
		"push 0 unless 0 stop":                          api.OK,
		"push 0 push 0 unless 1 stop":                   api.OK,
		"push 0 push 0 unless 0 stop":                   api.ErrStack,
		"push 0 jump 0":                                 api.ErrStack,
		"push 0 fail jump 0":                            api.OK,
		"push 0 push 0 unless 5 fail jump 6 set 0 stop": api.OK,
	} {
		checkVerify(t, program(words, 0), want)
	}
	// Paths from different entries may differ, but each of them needs its values.
	checkVerify(t, program("push 0 sync stop", 0, 1), api.OK)
	checkVerify(t, program("push 0 push 0 add stop", 0, 0), api.OK)
	checkVerify(t, program("push 0 push 0 add stop", 0, 1), api.ErrStack)
	checkVerify(t, program("push 0 push 0 add stop", 0, -1, 2), api.ErrStack)
	checkVerify(t, program("push 0 jump 3 sync push 1 stop", 0, 2, 3), api.OK)
}

// everyCode calls a function with all codes of at most this many instructions.
func everyCode(alphabet []api.Ins, length int, f func(code []api.Ins)) {
	var extend func(code []api.Ins)
	extend = func(code []api.Ins) {
		f(code)
		if len(code) < length {
			for _, in := range alphabet {
				extend(append(slices.Clone(code), in))
			}
		}
	}
	extend(nil)
}

// P8.3: all short programs.
func TestAllShortPrograms(t *testing.T) {
	found := map[api.Errno]int{}
	compare := func(code []api.Ins, first, second int) {
		p := program("", first, second)
		p.Code = code
		want := definedVerify(p)
		found[want]++
		checkVerify(t, p, want)
	}
	all := assembled(strings.Fields("push 0 set 3 draw add send 29 reply sync stop jump 0 jump 1 jump 2 jump 3 unless 0 unless 1 unless 2 var 4"))
	everyCode(append(all, api.Ins{Op: api.OpStop, N: 1}), 3, func(code []api.Ins) {
		for first := -1; first <= 3; first++ {
			compare(code, first, -1)
			compare(code, first, 1)
		}
	})
	few := assembled(strings.Fields("push 0 add fail stop jump 0 jump 2 jump 4 unless 0 unless 2 unless 3 unless 4"))
	everyCode(few, 4, func(code []api.Ins) {
		compare(code, 0, -1)
		compare(append(code, api.Ins{Op: api.OpStop}), 0, -1)
	})
	if found[api.OK] < 5000 || found[api.ErrCode] < 5000 || found[api.ErrStack] < 5000 {
		t.Errorf("the results are too rare: %v", found)
	}
}

// P8.3: random changes to valid programs.
func TestChangedPrograms(t *testing.T) {
	found := map[api.Errno]int{}
	each(t, 2, 1000, 4, func(m *maker, source string, u api.Unit) {
		p, e := Compile(u)
		for range 30 {
			if e != api.OK {
				return
			}
			q := p
			q.Code = slices.Clone(p.Code)
			for range 1 + m.r.Intn(3) {
				change(m.r, &q)
			}
			want := definedVerify(q)
			found[want]++
			checkVerify(t, q, want)
		}
	})
	if found[api.OK] < 2000 || found[api.ErrCode] < 2000 || found[api.ErrStack] < 2000 {
		t.Errorf("the results are too rare: %v", found)
	}
}

// change changes a number, an instruction or an entry of a program.
func change(r *rand.Rand, p *api.Program) {
	at := r.Intn(len(p.Code))
	switch r.Intn(12) {
	case 0:
		p.Durable += r.Intn(3) - 1
	case 1:
		p.Volatile += r.Intn(3) - 1
	case 2, 3:
		p.Entry[r.Intn(len(p.Entry))] = r.Intn(len(p.Code)+2) - 1
	case 4:
		p.Code[at].N += r.Intn(5) - 2
	case 5:
		p.Code = slices.Delete(p.Code, at, at+1)
		p.Code = append(p.Code, api.Ins{Op: api.OpStop})
	case 6, 7:
		p.Code[at] = api.Ins{Op: api.OpJump + r.Intn(2), N: r.Intn(len(p.Code))}
	default:
		op := 1 + r.Intn(23)
		p.Code[at] = api.Ins{Op: op}
	}
}

// R1: programs with arbitrary numbers.
func TestAnyNumbers(t *testing.T) {
	r := rand.New(rand.NewSource(3))
	wild := func() int { return r.Int() >> r.Intn(64) * (1 - 2*r.Intn(2)) }
	for range 20000 {
		p := api.Program{Durable: wild(), Volatile: wild(), Code: make([]api.Ins, r.Intn(500))}
		if r.Intn(2) == 0 {
			p.Durable, p.Volatile = 3, 2
		}
		for h := range p.Entry {
			p.Entry[h] = wild()
		}
		for i := range p.Code {
			p.Code[i] = api.Ins{Op: wild(), N: wild()}
		}
		if e := Verify(p); e != api.ErrLimit && e != api.ErrCode || (e == api.ErrLimit) != (len(p.Code) > 400) {
			t.Fatalf("the error of %v is %v", p, e)
		}
	}
}
