package compile

import (
	"math/rand"
	"slices"
	"strconv"
	"strings"
	"testing"

	"simproof/api"
	"simproof/parser"
	"simproof/types"
)

// checkCode fails the test unless a handler with these statements has this code before its last stop. The program has the durable variables d0 and d1 and the volatile ones v0 and v1.
func checkCode(t *testing.T, statements, want string) {
	t.Helper()
	p, e := Compile(parsed(t, "durable d0,d1;volatile v0,v1;on start{"+statements+"}"))
	if whole := program(want+" stop", 0); !equal(p, whole) || e != api.OK {
		t.Errorf("the code of %q is %q, %v, want %q", statements, show(p), e, show(whole))
	}
}

// checkBuild fails the test unless a source has this error, and with it the zero Program.
func checkBuild(t *testing.T, source string, want api.Errno) {
	t.Helper()
	p, e := Build(source)
	if e != want || e != api.OK && !equal(p, api.Program{}) {
		t.Errorf("the result of %.200q is %q, %v, want %v", source, show(p), e, want)
	}
}

// P8.1, P8.2: the example of the chapter.
func TestExample(t *testing.T) {
	const source = "durable x; on start { x = 1 + 2; }"
	want := program("push 1 push 2 add set 0 stop", 0)
	want.Durable, want.Volatile = 1, 0
	if p, e := Build(source); !equal(p, want) || e != api.OK {
		t.Errorf("the program is %v, %v", p, e)
	}
	if p, e := Compile(parsed(t, source)); !equal(p, want) || e != api.OK {
		t.Errorf("the compiled program is %v, %v", p, e)
	}
}

// P8.1: numbers.
func TestNumbers(t *testing.T) {
	for source, want := range map[string]string{
		"0": "push 0", "7": "push 7", "2147483647": "push 2147483647",
		"d0": "var 0", "d1": "var 1", "v0": "var 2", "v1": "var 3",
		"self": "name 0", "nodes": "name 1", "now": "name 2", "from": "name 3", "a": "name 4", "b": "name 5", "id": "name 6", "op": "name 7", "key": "name 8",
		"draw(3)": "push 3 draw", "draw(draw(2))": "push 2 draw draw", "-1": "push 1 neg", "--v0": "var 2 neg neg",
		"1+2": "push 1 push 2 add", "1-2": "push 1 push 2 sub", "1*2": "push 1 push 2 mul", "1/2": "push 1 push 2 div",
		"1-2-3": "push 1 push 2 sub push 3 sub", "1-(2-3)": "push 1 push 2 push 3 sub sub", "1+2*-3": "push 1 push 2 push 3 neg mul add",
	} {
		checkCode(t, "fail "+source+";", want+" fail")
	}
}

// P8.1: conditions.
func TestConditions(t *testing.T) {
	for source, want := range map[string]string{
		"true": "push 1", "false": "push 0", "!true": "push 1 not", "!(!false)": "push 0 not not",
		"1<2": "push 1 push 2 lt", "1<=2": "push 1 push 2 le", "1==2": "push 1 push 2 eq",
		"1>2": "push 1 push 2 le not", "1>=2": "push 1 push 2 lt not", "1!=2": "push 1 push 2 eq not",
		"d0<1&&false":         "var 0 push 1 lt unless 6 push 0 jump 7 push 0",
		"d0<1||false":         "var 0 push 1 lt unless 6 push 1 jump 7 push 0",
		"true&&false&&true":   "push 1 unless 4 push 0 jump 5 push 0 unless 8 push 1 jump 9 push 0",
		"true&&(false&&true)": "push 1 unless 8 push 0 unless 6 push 1 jump 7 push 0 jump 9 push 0",
		"true||(false||true)": "push 1 unless 4 push 1 jump 9 push 0 unless 8 push 1 jump 9 push 1",
		"true||!(1<2&&false)": "push 1 unless 4 push 1 jump 12 push 1 push 2 lt unless 10 push 0 jump 11 push 0 not",
	} {
		n := len(program(want).Code)
		checkCode(t, "while "+source+"{}", want+" unless "+strconv.Itoa(n+2)+" jump 0")
	}
}

// P8.1: statements.
func TestStatements(t *testing.T) {
	for source, want := range map[string]string{
		"": "", "d0=1;": "push 1 set 0", "d1=d0;": "var 0 set 1", "v0=v1;": "var 3 set 2", "v1=1;": "push 1 set 3",
		"send 1,29,2,3;": "push 1 push 2 push 3 send 29", "send self,0,a,b;": "name 0 name 4 name 5 send 0",
		"timer 0;": "timer 0", "timer 7;": "timer 7", "cancel 0;": "cancel 0", "cancel 7;": "cancel 7", "sync;": "sync", "stop;": "stop",
		"reply id,1;": "name 6 push 1 reply", "fail 3;": "push 3 fail",
		"sync;stop;timer 1;":                        "sync stop timer 1",
		"if true{}":                                 "push 1 unless 3 jump 3",
		"if true{sync;}":                            "push 1 unless 4 sync jump 4",
		"if true{}else{stop;}":                      "push 1 unless 3 jump 4 stop",
		"if true{sync;}else{stop;}timer 3;":         "push 1 unless 4 sync jump 5 stop timer 3",
		"sync;while true{}":                         "sync push 1 unless 4 jump 1",
		"while true{sync;}stop;":                    "push 1 unless 4 sync jump 0 stop",
		"while true{while false{sync;}stop;}":       "push 1 unless 8 push 0 unless 6 sync jump 2 stop jump 0",
		"if true{if false{sync;}else{stop;}}":       "push 1 unless 8 push 0 unless 6 sync jump 7 stop jump 8",
		"if true{}else{if false{sync;}else{stop;}}": "push 1 unless 3 jump 8 push 0 unless 7 sync jump 8 stop",
		"while true{if false{stop;}}":               "push 1 unless 7 push 0 unless 6 stop jump 6 jump 0",
	} {
		checkCode(t, source, want)
	}
}

// P8.1: the order of handlers, their entries, and the numbers of variables.
func TestHandlers(t *testing.T) {
	p, e := Build("on message 29{sync;}on timer 7{timer 1;}on request{}on start{if true{}}on message 0{stop;}on timer 0{}")
	want := program("push 1 unless 3 jump 3 stop stop stop timer 1 stop stop stop sync stop")
	want.Durable, want.Volatile = 0, 0
	for h, entry := range map[int]int{api.OnStart: 0, api.OnRequest: 4, api.OnTimer: 5, api.OnTimer + 7: 6, api.OnMessage: 8, api.OnMessage + 29: 10} {
		want.Entry[h] = entry
	}
	if !equal(p, want) || e != api.OK {
		t.Errorf("the program is %v, %v", p, e)
	}
	for source, want := range map[string][2]int{
		"": {0, 0}, "durable x;": {1, 0}, "volatile x;": {0, 1}, "volatile x,y;durable z;volatile w;": {1, 3},
		"durable a1,a2,a3,a4,a5,a6,a7,a8,a9,a10,a11,a12,a13,a14,a15,a16;": {16, 0},
	} {
		none := program("")
		none.Durable, none.Volatile = want[0], want[1]
		if p, e := Build(source); !equal(p, none) || e != api.OK {
			t.Errorf("the program of %q is %v, %v", source, p, e)
		}
	}
}

// P8.1: at most 400 instructions, which one or several handlers have.
func TestLongCode(t *testing.T) {
	for source, count := range map[string]int{"sync;": 1, "stop;": 1, "d0=1;": 2, "if true{}": 3, "while true{}": 3, "fail 1+1;": 4} {
		for _, handlers := range []string{"on start{", "on start{stop;}on message 3{", "on start{}on request{}on timer 1{"} {
			most := api.MaxCode - 1
			if handlers != "on start{" {
				most -= 2
			}
			body := strings.Repeat(source, most/count)
			for n := most / count * count; n <= most+1; n++ {
				want := api.OK
				if n > most {
					want = api.ErrLimit
				}
				checkBuild(t, "durable d0;"+handlers+body+"}", want)
				body += "sync;"
			}
		}
	}
}

// P8.1: long chains of operators need little stack.
func TestLongChains(t *testing.T) {
	for operators, want := range map[int]api.Errno{198: api.OK, 199: api.ErrLimit, 1490: api.ErrLimit} {
		checkBuild(t, "on start{fail 1"+strings.Repeat("+1", operators)+";}", want)
	}
}

// deepValue returns an expression that needs a stack of this many values.
func deepValue(values int) string {
	return strings.Repeat("1+(", values-1) + "1" + strings.Repeat(")", values-1)
}

// P8.1: at most 16 values on the stack, on every path through every handler.
func TestDeepStack(t *testing.T) {
	places := map[string]int{ // the number of values below the expression
		"fail @;": 0, "v=@;": 0, "fail -@;": 0, "fail draw(@);": 0, "reply @,1;": 0, "reply 1,@;": 1, "send @,1,1,1;": 0, "send 1,1,@,1;": 1, "send 1,1,1,@;": 2,
		"fail 1+@;": 1, "fail @*@;": 1, "while @<1{}": 0, "while 1<@{}": 1, "if @<1{}": 0, "if !(1>=@){}": 1,
		"if true&&1<@{}": 1, "if true||@<1{}": 0, "if false&&@<1{}": 0, "if 1<@||true{}": 1,
		"if true{}else{v=@;}": 0, "if true{v=@;}": 0, "while false{v=@;}": 0, "while false{stop;}v=@;": 0, "if true{stop;}v=@;": 0,
	}
	for place, below := range places {
		for _, handler := range []string{"on start{", "on start{stop;}on message 29{", "on message 29{}on start{"} {
			source := "volatile v;" + handler + place + "}"
			checkBuild(t, strings.ReplaceAll(source, "@", "("+deepValue(16-below)+")"), api.OK)
			checkBuild(t, strings.ReplaceAll(source, "@", "("+deepValue(17-below)+")"), api.ErrStack)
		}
	}
}

// P8.1: what no path reaches needs no stack.
func TestDeepStackBehindStop(t *testing.T) {
	fault := "fail " + deepValue(18) + ";"
	checkBuild(t, "on start{stop;"+fault+"}", api.OK)
	checkBuild(t, "on start{if true{stop;"+fault+"}while false{stop;if 1<2{"+fault+"}}}", api.OK)
	checkBuild(t, "on start{if true{stop;}else{stop;}"+fault+"}", api.OK)
	checkBuild(t, "on start{stop;"+fault+"}on request{"+fault+"}", api.ErrStack)
	checkBuild(t, "on start{while false{stop;}"+fault+"}", api.ErrStack)
}

// P8.1: the number of instructions is checked before the stack.
func TestLongCodeWithDeepStack(t *testing.T) {
	fault := "fail " + deepValue(17) + ";" // 34 instructions
	for _, source := range []string{"on start{" + fault + "@}", "on start{@}on request{" + fault + "}", "on request{@}on start{" + fault + "}"} {
		syncs := api.MaxCode - 34 - strings.Count(source, "on ")
		checkBuild(t, strings.ReplaceAll(source, "@", strings.Repeat("sync;", syncs)), api.ErrStack)
		checkBuild(t, strings.ReplaceAll(source, "@", strings.Repeat("sync;", syncs+1)), api.ErrLimit)
	}
}

// P8.2: the error of the first step that fails.
func TestBuildErrors(t *testing.T) {
	long, deep := strings.Repeat("sync;", 400), "fail "+deepValue(17)+";"
	for source, want := range map[string]api.Errno{
		"on": api.ErrSyntax, "on start{": api.ErrSyntax, "x": api.ErrSyntax, "on start{v=1;": api.ErrSyntax, "on start{" + long: api.ErrSyntax, "on start{" + deep: api.ErrSyntax,
		"on start{fail 2147483648;}": api.ErrRange, "on start{abcdefghijk=1;}": api.ErrLimit, "on timer 8{fail true;}": api.ErrRange, "durable x,x;on start{y=1;}": api.ErrDup,
		"on start{fail true;}on start{}": api.ErrDup, strings.Repeat(" ", 3001): api.ErrLimit, strings.Repeat(" ", 3000): api.OK,
		"on start{fail true;}": api.ErrType, "on start{v=1;}": api.ErrType, "on start{fail true;" + long + "}": api.ErrType, "on start{" + deep + "}on request{if 1{}}": api.ErrType,
		"on start{" + long + "}": api.ErrLimit, "on start{" + deep + "}": api.ErrStack,
	} {
		checkBuild(t, source, want)
	}
}

// P8.2: Build does in turn what the three packages do, for any string.
func TestBuildOfAnyString(t *testing.T) {
	r := rand.New(rand.NewSource(1))
	found := map[api.Errno]int{}
	words := strings.Split("}on request{,},{,durable x;,x=,y=,1;,x;,true;,if ,while ,x<1,true,sync;,stop;,fail ,$, ,\x80", ",")
	for range 100000 {
		source := []string{"on start{", "durable x;on start{", ""}[r.Intn(3)]
		for range r.Intn(6) {
			source += words[r.Intn(len(words))]
		}
		source += "}"
		want := program("")
		u, _, e := parser.Parse(source)
		if e == api.OK {
			e = types.Check(u)
		}
		if e == api.OK {
			want, e = Compile(u)
		}
		if e != api.OK {
			want = api.Program{}
		}
		found[e]++
		if p, got := Build(source); !equal(p, want) || got != e {
			t.Fatalf("the result of %q is %v, %v, want %v, %v", source, p, got, want, e)
		}
	}
	if found[api.OK] < 100 || found[api.ErrType] < 100 || found[api.ErrSyntax] < 100 {
		t.Errorf("the results are too rare: %v", found)
	}
}

// R4: arguments are not modified, and results are new memory.
func TestMemory(t *testing.T) {
	const source = "durable d0,d1;volatile v0,v1;on start{while d0<v1&&true{v0=-draw(2);}}on request{reply id,op;}"
	u := parsed(t, source)
	names := []string{"d0", "d1", "spare", "spare"}
	u.Durable = names[:2]
	p, _ := Compile(u)
	want := show(p)
	again, _ := Compile(u)
	clear(again.Code[:cap(again.Code)])
	if show(p) != want {
		t.Errorf("two results share memory")
	}
	kept := append(slices.Clone(p.Code), api.Ins{Op: -1}, api.Ins{Op: -1})
	code := slices.Clone(kept)
	p.Code = code[:len(code)-2]
	if Verify(p) != api.OK || !slices.Equal(code, kept) {
		t.Errorf("the code was changed: %v", code)
	}
	if !slices.Equal(names, []string{"d0", "d1", "spare", "spare"}) || !parser.Same(u, parsed(t, source)) {
		t.Errorf("the program was changed: %v", u)
	}
}

// No function panics for trees that Parse cannot return, such as nodes without children, and no invalid program is returned.
func TestOtherTrees(t *testing.T) {
	leaves := []api.Node{{}, {Kind: api.NodeInt, N: -1 << 63}, {Kind: api.NodeVar, S: "?"}, {Kind: api.NodeName, S: "?"}, {Kind: api.NodeBlock}, {Kind: api.NodeIf}, {Kind: -1}}
	for kind := -2; kind < api.NodeBinary+3; kind++ {
		for _, symbol := range []string{"", "x", "+", "-", "!", "&&", "<", "?"} {
			for count := range 5 {
				for i, leaf := range leaves {
					n := api.Node{Kind: kind, N: i * 10, S: symbol, Kids: slices.Repeat([]api.Node{leaf}, count)}
					for _, h := range []int{-1, 0, 39, 40} {
						checkOutcome(t, api.Unit{Durable: []string{"x"}, On: []api.Handler{{Number: h, Body: n}}})
					}
				}
			}
		}
	}
	checkOutcome(t, api.Unit{Volatile: make([]string, 17)})
}

// checkOutcome fails the test unless Compile returns either a valid program or an error with the zero Program.
func checkOutcome(t *testing.T, u api.Unit) {
	t.Helper()
	p, e := Compile(u)
	if e == api.OK && Verify(p) != api.OK || e != api.OK && !equal(p, api.Program{}) {
		t.Errorf("the result for %v is %v, %v", u, p, e)
	}
}
