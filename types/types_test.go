package types

import (
	"slices"
	"strconv"
	"strings"
	"testing"

	"simproof/api"
	"simproof/parser"
)

// P7.1 to P7.3: the examples of the chapter.
func TestExamples(t *testing.T) {
	checkType(t, "1+2<now", Bool)
	checkType(t, "draw(true)", Invalid)
	checkCheck(t, "volatile v; on start { v = w; }", api.ErrType)
	checkCheck(t, "on start { if 1 { } }", api.ErrType)
	if i := Index(parsed(t, "durable d; volatile v;"), "v"); i != 1 {
		t.Errorf("the number of v is %d, want 1", i)
	}
}

// The values of the types are those of the chapter.
func TestTypes(t *testing.T) {
	if Invalid != 0 || Int != 1 || Bool != 2 {
		t.Errorf("the types are %d, %d and %d", Invalid, Int, Bool)
	}
}

// P7.1: expressions without operators.
func TestLeaves(t *testing.T) {
	for source := range strings.FieldsSeq("0 1 2 007 2147483647 x v onx c abcdefghij " + builtIns) {
		checkType(t, source, Int)
		checkType(t, "("+source+")", Int)
	}
	checkType(t, "true", Bool)
	checkType(t, "false", Bool)
}

// operand is an expression and its type.
type operand struct {
	source string
	of     Type
}

// operands returns expressions of all three types, each one made in several ways.
func operands() []operand {
	return []operand{
		{"1", Int}, {"x", Int}, {"now", Int}, {"(-1)", Int}, {"draw(2)", Int}, {"(1+x)", Int},
		{"true", Bool}, {"(!true)", Bool}, {"(1<x)", Bool}, {"(true&&false)", Bool},
		{"draw(true)", Invalid}, {"(-true)", Invalid}, {"(!1)", Invalid}, {"(1+true)", Invalid}, {"(true<false)", Invalid}, {"(1||true)", Invalid}, {"draw(draw(true))", Invalid},
	}
}

// P7.1: every operator with operands of all types.
func TestOperators(t *testing.T) {
	typeIf := func(condition bool, of Type) Type {
		if condition {
			return of
		}
		return Invalid
	}
	for _, x := range operands() {
		checkType(t, x.source, x.of)
		checkType(t, "draw("+x.source+")", typeIf(x.of == Int, Int))
		checkType(t, "-"+x.source, typeIf(x.of == Int, Int))
		checkType(t, "!"+x.source, typeIf(x.of == Bool, Bool))
		for _, y := range operands() {
			for operator := range strings.FieldsSeq(arithmetic) {
				checkType(t, x.source+operator+y.source, typeIf(x.of == Int && y.of == Int, Int))
			}
			for operator := range strings.FieldsSeq(comparisons) {
				checkType(t, x.source+operator+y.source, typeIf(x.of == Int && y.of == Int, Bool))
			}
			for operator := range strings.FieldsSeq(connectives) {
				checkType(t, x.source+operator+y.source, typeIf(x.of == Bool && y.of == Bool, Bool))
			}
		}
	}
}

// P7.1: all expressions of at most two levels of operators.
func TestAllSmallExpressions(t *testing.T) {
	d := newDefinition()
	var deeper func(levels int) []string
	deeper = func(levels int) []string {
		all := []string{"1", "true"}
		if levels == 0 {
			return all
		}
		inner := deeper(levels - 1)
		for _, x := range inner {
			all = append(all, "draw("+x+")", "(-"+x+")", "(!"+x+")")
			for operator := range strings.FieldsSeq(arithmetic + " " + comparisons + " " + connectives) {
				for _, y := range inner {
					all = append(all, "("+x+operator+y+")")
				}
			}
		}
		return all
	}
	for _, source := range deeper(2) {
		checkType(t, source, d.typeOf(source))
	}
}

// P7.1: statements have no type, whether they are well-typed or not.
func TestStatementsHaveNoType(t *testing.T) {
	for _, source := range []string{
		"x=1;", "x=true;", "if true{}", "if 1{}", "if true{}else{stop;}", "while true{}", "while 1{}", "send 1,2,3,4;", "send true,2,3,4;",
		"timer 1;", "cancel 1;", "sync;", "reply 1,2;", "reply 1,true;", "fail 1;", "fail true;", "stop;",
	} {
		if got := TypeOf(statement(t, source)); got != Invalid {
			t.Errorf("the type of %q is %d", source, got)
		}
	}
	body := parsed(t, "on start{stop;}").On[0].Body
	if got := TypeOf(body); got != Invalid {
		t.Errorf("the type of a block is %d", got)
	}
	empty := parsed(t, "on start{}").On[0].Body
	if got := TypeOf(empty); got != Invalid {
		t.Errorf("the type of an empty block is %d", got)
	}
}

// P7.1: variables are not looked up.
func TestTypesWithoutVariables(t *testing.T) {
	u := parsed(t, "volatile v;on start{v=w+v;}")
	if got := TypeOf(u.On[0].Body.Kids[0].Kids[0]); got != Int {
		t.Errorf("the type of a sum of a variable and an undeclared name is %d", got)
	}
	if got := TypeOf(api.Node{Kind: api.NodeVar}); got != Int {
		t.Errorf("the type of a variable without a name is %d", got)
	}
}

// shape is a statement with the places of its expressions, and the type that the chapter asks for there.
type shape struct {
	source string // with @ where an expression stands
	want   Type
}

// shapes returns all statements that contain expressions.
func shapes() []shape {
	return []shape{
		{"x=@;", Int}, {"if @{}", Bool}, {"if @{}else{stop;}", Bool}, {"if @{stop;}else{}", Bool}, {"while @{}", Bool}, {"while @{stop;}", Bool},
		{"send @,1,x,3;", Int}, {"send 1,2,@,3;", Int}, {"send x,2,3,@;", Int}, {"send @,2,@,@;", Int},
		{"reply @,1;", Int}, {"reply x,@;", Int}, {"reply @,@;", Int}, {"fail @;", Int},
	}
}

// surroundings returns programs with the variable x and @ where a statement stands.
func surroundings() []string {
	var all []string
	for _, block := range []string{
		"@", "sync;@", "@sync;", "stop;@", "timer 1;@cancel 1;",
		"if true{@}", "if true{}else{@}", "if false{stop;}else{x=1;@}", "while true{@}", "while false{if false{while x<1{x=x+1;@}}else{}}",
		"if true{if true{}else{@}}", "if true{@}else{stop;}", "while true{sync;}@",
	} {
		all = append(all, "volatile x;on start{"+block+"}", "durable y;volatile x;on request{}on timer 7{"+block+"}", "durable x;on start{x=1;}on message 29{"+block+"}on message 0{}")
	}
	return all
}

// P7.2: every place of an expression, in every surrounding, with expressions of all types.
func TestCheckPlaces(t *testing.T) {
	for _, around := range surroundings() {
		for _, s := range shapes() {
			for _, o := range operands() {
				whole := strings.Replace(around, "@", strings.ReplaceAll(s.source, "@", o.source), 1)
				checkCheck(t, whole, errorIf(o.of != s.want))
			}
		}
	}
}

// P7.2: undeclared names, in every place and surrounding.
func TestCheckUndeclared(t *testing.T) {
	for _, around := range surroundings() {
		checkCheck(t, strings.Replace(around, "@", "x=1;", 1), api.OK)
		checkCheck(t, strings.Replace(around, "@", "w=1;", 1), api.ErrType)
		checkCheck(t, strings.Replace(around, "@", "xx=x;", 1), api.ErrType)
		for _, s := range shapes() {
			for _, source := range []string{"#", "draw(#)", "(-#)", "(1+#)", "(#*x)", "draw((x-(1/(-#))))"} {
				if s.want == Bool {
					source = "(true||!((" + source + "<1)&&false))"
				}
				whole := strings.Replace(around, "@", strings.ReplaceAll(s.source, "@", source), 1)
				checkCheck(t, strings.ReplaceAll(whole, "#", "x"), api.OK)
				checkCheck(t, strings.ReplaceAll(whole, "#", "w"), api.ErrType)
			}
		}
	}
}

// P7.2: statements with several expressions, of which each one may be wrong.
func TestCheckEachPlace(t *testing.T) {
	d := newDefinition()
	choice := []string{"1", "x", "w", "true", "draw(true)"}
	for _, source := range []string{
		"{send A,3,B,C;}", "{reply A,B;fail C;}", "{x=A;fail B;x=C;}", "{fail A;w=B;}", "{if A{fail B;}else{fail C;}}", "{if true{x=A;}else{x=B;}x=C;}", "{while A{x=B;while C{}}}",
	} {
		for _, a := range choice {
			for _, b := range choice {
				for _, c := range choice {
					block := strings.NewReplacer("A", a, "B", b, "C", c).Replace(source)
					checkCheck(t, "durable x;on start"+block, errorIf(!d.accepts(block, []string{"x"})))
				}
			}
		}
	}
}

// P7.2: programs without anything that can be wrong.
func TestCheckPlainPrograms(t *testing.T) {
	for _, source := range []string{
		"", "durable x;", "volatile x,y;durable z;", "on start{}", "on start{}on request{}on timer 0{}on message 29{}", "durable x;on start{}",
		"on start{sync;stop;timer 0;timer 7;cancel 0;cancel 7;}", "on start{if true{}else{}while false{}}",
		"on start{reply self+nodes+now+from+a+b,id+op+key;}", "on request{send from,29,a,b;}", "volatile x;on start{x=x;}on request{x=x;}",
	} {
		checkCheck(t, source, api.OK)
	}
	checkCheck(t, "durable x;on start{x=1;}on request{y=1;}", api.ErrType)
	checkCheck(t, "durable x;on start{y=1;}on request{x=1;}", api.ErrType)
	checkCheck(t, "volatile x;on start{x1=1;}", api.ErrType)
	checkCheck(t, "durable xy;on start{x=1;}", api.ErrType)
}

// P7.3: durable variables come first, in the order of their declarations.
func TestIndex(t *testing.T) {
	for source, order := range map[string]string{
		"":                                    "",
		"durable x;":                          "x",
		"volatile x;":                         "x",
		"volatile v;durable d;":               "d v",
		"durable z,y,x;":                      "z y x",
		"volatile z;volatile a1,y;":           "z a1 y",
		"volatile v,u;durable x;durable d,c;": "x d c v u",
		"durable d;volatile v;durable e;volatile w;on start{n=m;}": "d e v w",
		"durable xx,x,xxx;volatile x1;":                            "xx x xxx x1",
	} {
		u, names := parsed(t, source), strings.Fields(order)
		for _, name := range append(names, strings.Fields("w n m X on start self a key y1 xxxx 0 + abcdefghijk")...) {
			if got := Index(u, name); got != slices.Index(names, name) {
				t.Errorf("the number of %q in %q is %d", name, source, got)
			}
		}
		for _, name := range []string{"", " ", " x", "x ", "x,y", "d v", "x\x00", "\xff", ";", strings.Repeat("x", 1<<20)} {
			if got := Index(u, name); got != -1 {
				t.Errorf("the number of %.20q in %q is %d", name, source, got)
			}
		}
	}
}

// P7.3: as many variables as a program can have.
func TestIndexOfMany(t *testing.T) {
	var names []string
	for i := range api.MaxVars {
		names = append(names, "v"+strconv.Itoa(i))
	}
	for n := range api.MaxVars + 1 {
		u := api.Unit{Durable: names[:n], Volatile: names[n:]}
		for i, name := range names {
			if got := Index(u, name); got != i {
				t.Errorf("with %d durable variables, the number of %s is %d", n, name, got)
			}
		}
	}
}

// R1: programs at the limits, with long sums and deep nesting.
func TestLimits(t *testing.T) {
	sum := "1" + strings.Repeat("+1", 1480)
	checkType(t, sum, Int)
	checkType(t, "true"+sum[1:], Invalid)
	checkType(t, sum[:len(sum)-1]+"true", Invalid)
	for _, c := range []struct {
		open, inner, shut string
		want              Type
	}{
		{"(1+", "1", ")", Int}, {"(1+", "true", ")", Invalid}, {"-", "1", "", Int}, {"!", "true", "", Bool}, {"!", "1", "", Invalid}, {"draw(", "1", ")", Int}, {"draw(", "true", ")", Invalid},
	} {
		checkType(t, strings.Repeat(c.open, 19)+c.inner+strings.Repeat(c.shut, 19), c.want)
	}
	for _, open := range []string{"if true{", "if true{}else{", "while true{"} {
		for inner, want := range map[string]api.Errno{"": api.OK, "x=1;": api.OK, "y=1;": api.ErrType, "x=true;": api.ErrType, "if 1{}": api.ErrType} {
			levels := 19 - strings.Count(inner, "{")
			checkCheck(t, "volatile x;on start{"+strings.Repeat(open, levels)+inner+strings.Repeat("}", levels+1), want)
		}
	}
}

// R1: trees with as many levels as the document allows.
func TestDeepTrees(t *testing.T) {
	deep := func(n api.Node, kind int, symbol string, beside ...api.Node) api.Node {
		for range 1<<16 - 3 {
			n = api.Node{Kind: kind, S: symbol, Kids: append([]api.Node{n}, beside...)}
		}
		return n
	}
	one, yes := expr(t, "1"), expr(t, "true")
	for want, n := range map[Type]api.Node{
		Int: deep(one, api.NodeBinary, "+", one), Bool: deep(yes, api.NodeBinary, "||", yes), Invalid: deep(yes, api.NodeUnary, "-"),
	} {
		if got := TypeOf(n); got != want {
			t.Errorf("a deep tree has the type %d, want %d", got, want)
		}
		body := deep(api.Node{Kind: api.NodeFail, Kids: []api.Node{n}}, api.NodeBlock, "")
		if got := Check(api.Unit{On: []api.Handler{{Body: body}}}); got != errorIf(want != Int) {
			t.Errorf("a deep program with a value of type %d has the error %v", want, got)
		}
	}
}

// No function panics for trees that Parse cannot return, such as nodes without children.
func TestOtherTrees(t *testing.T) {
	leaves := []api.Node{{}, {Kind: api.NodeInt}, {Kind: api.NodeBool}, {Kind: api.NodeVar}, {Kind: api.NodeBlock}, {Kind: api.NodeIf}, {Kind: -1}}
	for kind := -2; kind < api.NodeBinary+3; kind++ {
		for _, symbol := range []string{"", "x", "+", "-", "!", "&&", "<", "?"} {
			for count := range 5 {
				for _, leaf := range leaves {
					n := api.Node{Kind: kind, S: symbol, Kids: slices.Repeat([]api.Node{leaf}, count)}
					TypeOf(n)
					Check(api.Unit{Durable: []string{"x"}, On: []api.Handler{{Body: n}}})
				}
			}
		}
	}
}

// R4: arguments are not modified, nor is their spare capacity.
func TestArgumentsStay(t *testing.T) {
	const source = "durable x,y;volatile z,v;on start{x=1;if x<y{stop;}else{while true{z=draw(v);}}send 1,2,3,w;}on request{if 1{}}"
	u := parsed(t, source)
	names := []string{"x", "y", "spare", "spare"}
	u.Durable = names[:2]
	for range 2 {
		Check(u)
		Check(api.Unit{Durable: u.Durable, Volatile: []string{"z", "v", "w"}, On: u.On[:1]})
		Index(u, "v")
		for _, h := range u.On {
			TypeOf(h.Body)
		}
	}
	if !slices.Equal(names, []string{"x", "y", "spare", "spare"}) || !parser.Same(u, parsed(t, source)) {
		t.Errorf("the program was changed: %v", u)
	}
}
