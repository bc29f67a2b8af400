package parser

import (
	"slices"
	"strconv"
	"strings"
	"testing"

	"simproof/api"
)

// These make the trees of the tests short.
func node(kind int, kids ...api.Node) api.Node { return api.Node{Kind: kind, Kids: kids} }
func number(n int) api.Node                    { return api.Node{Kind: api.NodeInt, N: n} }
func truth(n int) api.Node                     { return api.Node{Kind: api.NodeBool, N: n} }
func variable(name string) api.Node            { return api.Node{Kind: api.NodeVar, S: name} }
func builtIn(name string) api.Node             { return api.Node{Kind: api.NodeName, S: name} }
func block(kids ...api.Node) api.Node          { return node(api.NodeBlock, kids...) }
func draw(n api.Node) api.Node                 { return node(api.NodeDraw, n) }

func unary(operator string, n api.Node) api.Node {
	return api.Node{Kind: api.NodeUnary, S: operator, Kids: []api.Node{n}}
}

func pair(a api.Node, operator string, b api.Node) api.Node {
	return api.Node{Kind: api.NodeBinary, S: operator, Kids: []api.Node{a, b}}
}

func assign(name string, n api.Node) api.Node {
	return api.Node{Kind: api.NodeAssign, S: name, Kids: []api.Node{n}}
}

func numbered(kind, n int, kids ...api.Node) api.Node {
	return api.Node{Kind: kind, N: n, Kids: kids}
}

func on(number int, body api.Node) api.Handler { return api.Handler{Number: number, Body: body} }

func start(statements ...api.Node) api.Unit {
	return api.Unit{On: []api.Handler{on(api.OnStart, block(statements...))}}
}

// checkUnit fails the test unless a source has this tree.
func checkUnit(t *testing.T, source string, want api.Unit) {
	t.Helper()
	if got, at, e := Parse(source); !Same(got, want) || at != 0 || e != api.OK {
		t.Errorf("the program %q: %v, %d, %v, want %v", source, got, at, e, want)
	}
}

// checkError fails the test unless a source has this error.
func checkError(t *testing.T, source string, wantAt int, want api.Errno) {
	t.Helper()
	u, at, e := Parse(source)
	if at != wantAt || e != want || u.Durable != nil || u.Volatile != nil || u.On != nil {
		t.Errorf("the error of %q: %v, %d, %v, want %d, %v", source, u, at, e, wantAt, want)
	}
}

// checkErrorAfter fails the test unless a source has this error behind its beginning.
func checkErrorAfter(t *testing.T, before, after string, want api.Errno) {
	t.Helper()
	checkError(t, before+after, len(before), want)
}

// checkExpr fails the test unless an expression has this tree.
func checkExpr(t *testing.T, source string, want api.Node) {
	t.Helper()
	checkUnit(t, "on start{fail "+source+";}", start(node(api.NodeFail, want)))
}

// P6.1: the examples of the chapter.
func TestExamples(t *testing.T) {
	checkUnit(t, "on start{x=1;}", start(assign("x", number(1))))
	checkError(t, "durable x,x;", 10, api.ErrDup)
	checkError(t, "on timer 8{}", 9, api.ErrRange)
}

// P6.1 and P6.2: programs without statements.
func TestHandlers(t *testing.T) {
	checkUnit(t, "", api.Unit{})
	checkUnit(t, " \n# nothing", api.Unit{})
	checkUnit(t, "on start{}", start())
	var all api.Unit
	source := ""
	for number := range api.Handlers {
		words := []string{"start", "request"}
		for k := range api.MaxTimers {
			words = append(words, "timer "+strconv.Itoa(k))
		}
		for k := range api.MaxKinds {
			words = append(words, "message "+strconv.Itoa(k))
		}
		h := on(number, block(assign("x", builtIn("self"))))
		one := "on " + words[number] + "{x=self;}"
		checkUnit(t, one, api.Unit{On: []api.Handler{h}})
		all.On = append(all.On, h)
		source = one + source
	}
	checkUnit(t, source, all)
}

// P6.2: names keep their order within their kind, and handlers get the order of their numbers.
func TestOrder(t *testing.T) {
	checkUnit(t, "durable z;", api.Unit{Durable: []string{"z"}})
	checkUnit(t, "volatile z,y;", api.Unit{Volatile: []string{"z", "y"}})
	checkUnit(t, "volatile v;durable d,c;volatile a1,u;durable e;", api.Unit{Durable: []string{"d", "c", "e"}, Volatile: []string{"v", "a1", "u"}})
	stop := block(node(api.NodeStop))
	checkUnit(t, "volatile v;on message 0{stop;}on timer 7{stop;}on request{}on timer 0{}on start{stop;}on message 29{}",
		api.Unit{Volatile: []string{"v"}, On: []api.Handler{on(0, stop), on(1, block()), on(2, block()), on(9, stop), on(10, stop), on(39, block())}})
}

// Every kind of statement.
func TestStatements(t *testing.T) {
	x, y := variable("x"), variable("y")
	for source, want := range map[string]api.Node{
		"x=y;":                      assign("x", y),
		"timer 0;":                  numbered(api.NodeTimer, 0),
		"timer 7;":                  numbered(api.NodeTimer, 7),
		"timer 007;":                numbered(api.NodeTimer, 7),
		"cancel 0;":                 numbered(api.NodeCancel, 0),
		"cancel 7;":                 numbered(api.NodeCancel, 7),
		"sync;":                     node(api.NodeSync),
		"stop;":                     node(api.NodeStop),
		"reply x,y;":                node(api.NodeReply, x, y),
		"fail x;":                   node(api.NodeFail, x),
		"send x,0,y,1;":             numbered(api.NodeSend, 0, x, y, number(1)),
		"send 30,29,40,-y;":         numbered(api.NodeSend, 29, number(30), number(40), unary("-", y)),
		"while x{}":                 node(api.NodeWhile, x, block()),
		"while x{sync;stop;}":       node(api.NodeWhile, x, block(node(api.NodeSync), node(api.NodeStop))),
		"if x{}":                    node(api.NodeIf, x, block(), block()),
		"if x{}else{}":              node(api.NodeIf, x, block(), block()),
		"if x{sync;}":               node(api.NodeIf, x, block(node(api.NodeSync)), block()),
		"if x{}else{sync;}":         node(api.NodeIf, x, block(), block(node(api.NodeSync))),
		"if x{stop;}else{if y{}}":   node(api.NodeIf, x, block(node(api.NodeStop)), block(node(api.NodeIf, y, block(), block()))),
		"if x{if y{}else{stop;}}":   node(api.NodeIf, x, block(node(api.NodeIf, y, block(), block(node(api.NodeStop)))), block()),
		"if x{while y{}}else{x=y;}": node(api.NodeIf, x, block(node(api.NodeWhile, y, block())), block(assign("x", y))),
	} {
		checkUnit(t, "on start{"+source+"}", start(want))
		checkUnit(t, "on start{sync;"+source+source+"}", start(node(api.NodeSync), want, want))
	}
}

// Every kind of primary expression.
func TestPrimaries(t *testing.T) {
	checkExpr(t, "0", number(0))
	checkExpr(t, "0012", number(12))
	checkExpr(t, "2147483647", number(api.MaxValue))
	checkExpr(t, "true", truth(1))
	checkExpr(t, "false", truth(0))
	for _, name := range strings.Fields("self nodes now from a b id op key") {
		checkExpr(t, name, builtIn(name))
	}
	for _, name := range strings.Fields("x c on1 starts selfs aa a1 no keys durables fails draws abcdefghij") {
		checkExpr(t, name, variable(name))
		checkUnit(t, "volatile "+name+";on start{"+name+"=1;}", api.Unit{Volatile: []string{name}, On: start(assign(name, number(1))).On})
	}
	checkExpr(t, "(x)", variable("x"))
	checkExpr(t, "((true))", truth(1))
	checkExpr(t, "draw(3)", draw(number(3)))
	checkExpr(t, "draw((x||y))", draw(pair(variable("x"), "||", variable("y"))))
	checkExpr(t, "draw(draw(x))", draw(draw(variable("x"))))
}

// The precedence of operators, and association to the left.
func TestOperators(t *testing.T) {
	x, y, z := variable("x"), variable("y"), variable("z")
	for _, operator := range strings.Fields("|| && < <= > >= == != + - * /") {
		checkExpr(t, "x"+operator+"y", pair(x, operator, y))
	}
	for _, operator := range strings.Fields("|| && + - * /") {
		checkExpr(t, "x"+operator+"y"+operator+"z", pair(pair(x, operator, y), operator, z))
		checkExpr(t, "x"+operator+"(y"+operator+"z)", pair(x, operator, pair(y, operator, z)))
	}
	checkExpr(t, "x-y+z", pair(pair(x, "-", y), "+", z))
	checkExpr(t, "x+y-z", pair(pair(x, "+", y), "-", z))
	checkExpr(t, "x/y*z", pair(pair(x, "/", y), "*", z))
	levels := strings.Fields("|| && < + *")
	for i, loose := range levels {
		for _, tight := range levels[i+1:] {
			checkExpr(t, "x"+loose+"y"+tight+"z", pair(x, loose, pair(y, tight, z)))
			checkExpr(t, "x"+tight+"y"+loose+"z", pair(pair(x, tight, y), loose, z))
			checkExpr(t, "(x"+loose+"y)"+tight+"z", pair(pair(x, loose, y), tight, z))
		}
	}
	for _, operator := range strings.Fields("< <= > >= == != + - * /") {
		checkExpr(t, "!x"+operator+"y", unary("!", pair(x, operator, y)))
		checkExpr(t, "(!x)"+operator+"y", pair(unary("!", x), operator, y))
		checkExpr(t, "-x"+operator+"y", pair(unary("-", x), operator, y))
		checkExpr(t, "x"+operator+"-y", pair(x, operator, unary("-", y)))
	}
	for _, operator := range strings.Fields("|| &&") {
		checkExpr(t, "!x"+operator+"!y", pair(unary("!", x), operator, unary("!", y)))
	}
	checkExpr(t, "!!x", unary("!", unary("!", x)))
	checkExpr(t, "--x", unary("-", unary("-", x)))
	checkExpr(t, "!-x", unary("!", unary("-", x)))
	checkExpr(t, "-(!x)", unary("-", unary("!", x)))
	checkExpr(t, "x- -y", pair(x, "-", unary("-", y)))
	checkExpr(t, "-1", unary("-", number(1)))
	checkExpr(t, "(x<y)==(y<z)", pair(pair(x, "<", y), "==", pair(y, "<", z)))
}

// P6.1: sources of more than 3000 bytes, whatever they contain.
func TestLongSources(t *testing.T) {
	checkUnit(t, strings.Repeat(" ", 3000), api.Unit{})
	checkError(t, strings.Repeat(" ", 3001), 3000, api.ErrLimit)
	checkError(t, strings.Repeat("$", 3001), 3000, api.ErrLimit)
	checkError(t, "on on"+strings.Repeat("\n", 1<<20), 3000, api.ErrLimit)
	checkUnit(t, "on start{}#"+strings.Repeat("x", 2989), start())
	checkError(t, "on start{}#"+strings.Repeat("x", 2990), 3000, api.ErrLimit)
	long := pair(number(1), "+", number(1))
	for range 1490 {
		long = pair(long, "+", number(1))
	}
	checkExpr(t, "1"+strings.Repeat("+1", 1491), long)
}

// P6.1: the errors of the lexer come before those of the parser.
func TestLexerErrors(t *testing.T) {
	checkErrorAfter(t, "on on durable 7 } ", "$", api.ErrSyntax)
	checkErrorAfter(t, "durable x,x;on timer 9{} ", "abcdefghijk", api.ErrLimit)
	checkErrorAfter(t, ";", "2147483648", api.ErrRange)
	checkErrorAfter(t, "on start{x=", "99999999999999999999;}", api.ErrRange)
	checkErrorAfter(t, "on start{if x", "|y{}}", api.ErrSyntax)
	checkErrorAfter(t, "durable ", "longername1;", api.ErrLimit)
	checkErrorAfter(t, "durable ", "X;", api.ErrSyntax)
}

// P6.1: tokens that cannot follow, outside handlers.
func TestSyntaxOutside(t *testing.T) {
	for _, c := range [][2]string{
		{"", "x"}, {"", ";"}, {"", "1"}, {"", "{"}, {"", "start{}"},
		{"durable", ""}, {"durable ", ";"}, {"durable ", "1;"}, {"volatile ", ","}, {"volatile ", "durable x;"},
		{"durable x", ""}, {"durable x ", "y;"}, {"durable x", "=1;"}, {"durable x,", ";"}, {"durable x,", ""}, {"volatile x,", ",y;"},
		{"durable x;", ";"}, {"durable x;", "y;"},
		{"on", ""}, {"on ", "on start{}"}, {"on ", "x{}"}, {"on ", "{}"}, {"on ", "0{}"}, {"on ", "crash{}"}, {"on ", "cancel 1{}"},
		{"on start", ""}, {"on start", ";"}, {"on start ", "0{}"}, {"on request ", "1{}"},
		{"on timer", ""}, {"on timer", "{}"}, {"on timer ", "x{}"}, {"on timer ", "-1{}"}, {"on timer ", "(1){}"}, {"on timer 1", ""}, {"on timer 1 ", "2{}"},
		{"on message", "{}"}, {"on message ", "message"}, {"on message 29", ";"},
		{"on start{}", "{}"}, {"on start{}", "}"}, {"on start{} ", "start{}"}, {"on start{}", ";"},
		{"on start{} ", "durable x;"}, {"on start{} ", "volatile x;"}, {"on start{} ", "x=1;"},
	} {
		checkErrorAfter(t, c[0], c[1], api.ErrSyntax)
	}
	for _, reserved := range strings.Fields("durable volatile on start request timer message if else while send cancel sync reply fail stop true false draw self nodes now from a b id op key") {
		checkErrorAfter(t, "durable ", reserved+";", api.ErrSyntax)
		checkErrorAfter(t, "volatile x,", reserved+";", api.ErrSyntax)
	}
}

// P6.1: tokens that cannot follow, in statements.
func TestSyntaxInStatements(t *testing.T) {
	for _, c := range [][2]string{
		{"", ""}, {"", ";"}, {"", "{}"}, {"", "1=x;"}, {"", "(x)=1;"}, {"", "-x;"}, {"", "on start{}"}, {"", "durable x;"},
		{"", "else{}"}, {"", "true=1;"}, {"", "draw(2);"}, {"", "message 1;"}, {"", "request;"}, {"", "self=1;"}, {"", "a=1;"}, {"", "b=1;"}, {"", "key=1;"},
		{"x", ""}, {"x", ";"}, {"x", "==1;"}, {"x ", "y=1;"}, {"x=", ""}, {"x=", ";"}, {"x=1", ""}, {"x=1", "}"}, {"x=1", ",2;"}, {"x=1", "=2;"},
		{"if", ""}, {"if", "{}"}, {"if x", ";"}, {"if x ", "sync;"}, {"if x{sync", "}"}, {"if x{}else ", "if y{}"}, {"if x{}else", ";"}, {"if x{}else{}", "else{}"}, {"if x{}sync;", "else{}"}, {"if x{", "else{}"}, {"if x{}", ";"},
		{"while", "{}"}, {"while x", ""}, {"while x", ";"}, {"while x{", ""}, {"while x{}", "else{}"},
		{"send", ";"}, {"send 1", ";"}, {"send 1,", "x,3,4;"}, {"send 1,", "(2),3,4;"}, {"send 1,", "-2,3,4;"}, {"send 1,2", "+2,3,4;"}, {"send 1,2", ";"}, {"send 1,2,", ";"}, {"send 1,2,3", ";"}, {"send 1,2,3,4", ",5;"}, {"send ", ",2,3,4;"},
		{"timer", ";"}, {"timer ", "x;"}, {"timer ", "-1;"}, {"timer 1", ""}, {"timer 1", "+1;"}, {"cancel", ";"}, {"cancel ", "self;"}, {"cancel 1 ", "2;"},
		{"sync", ""}, {"sync ", "1;"}, {"sync", "}"}, {"stop", "}"}, {"stop", "(1);"},
		{"reply", ";"}, {"reply 1", ";"}, {"reply 1,", ";"}, {"reply 1,2", ",3;"}, {"reply ", ",1;"},
		{"fail", ";"}, {"fail 1", ""}, {"fail 1", ",2;"}, {"fail ", "while x{}"},
	} {
		checkErrorAfter(t, "on start{"+c[0], c[1], api.ErrSyntax)
		checkErrorAfter(t, "on timer 3{if x{}else{stop;"+c[0], c[1], api.ErrSyntax)
	}
}

// P6.1: tokens that cannot follow, in expressions.
func TestSyntaxInExpressions(t *testing.T) {
	for _, c := range [][2]string{
		{"", ""}, {"", ")"}, {"", "*1"}, {"", "+1"}, {"", "<1"}, {"", "=1"}, {"", "[1]"}, {"", "if"}, {"", "start"},
		{"1 ", "2"}, {"1 ", "x"}, {"x ", "1"}, {"x", "(1)"}, {"1", "!"}, {"1", "[1]"}, {"self ", "nodes"}, {"true ", "false"},
		{"1+", ""}, {"1+", ";"}, {"1+", "+2"}, {"1+", "!x"}, {"1*", "!x"}, {"1*", "*2"}, {"1<", "!x"}, {"1==", "!x"}, {"-", "!x"}, {"1<2", "<3"}, {"1<2", "==3"}, {"1==2", "!=3"}, {"1>=2+3", ">4"}, {"!1<2", "<3"},
		{"1&&", "&&2"}, {"1||", ""}, {"1&&", ")"}, {"!", ""}, {"!", "<1"}, {"-", ""}, {"-", ")"},
		{"(", ""}, {"(", ")"}, {"(1", ""}, {"(1", ";"}, {"(1 ", "2)"}, {"(1)", ")"}, {"((1)", ";"}, {"(1", ",2)"}, {"(1)", "(2)"}, {"(1) ", "x"},
		{"draw", ""}, {"draw ", "2"}, {"draw", ";"}, {"draw ", "x"}, {"draw(", ")"}, {"draw(1", ""}, {"draw(1", ",2)"}, {"draw(1)", "(1)"},
	} {
		checkErrorAfter(t, "on start{fail "+c[0], c[1], api.ErrSyntax)
		checkErrorAfter(t, "on start{send 1,2,x&&"+c[0], strings.Replace(c[1], ";", "}", 1), api.ErrSyntax)
	}
}

// P6.1: names that were declared before.
func TestRepeatedNames(t *testing.T) {
	checkErrorAfter(t, "durable x,y,z,", "y", api.ErrDup)
	checkErrorAfter(t, "durable x;durable ", "x;", api.ErrDup)
	checkErrorAfter(t, "durable x;volatile y,", "x;", api.ErrDup)
	checkErrorAfter(t, "volatile x;durable y;durable ", "x;", api.ErrDup)
	checkErrorAfter(t, "durable x,", "x x", api.ErrDup)
	checkUnit(t, "durable x;volatile xx,x1;", api.Unit{Durable: []string{"x"}, Volatile: []string{"xx", "x1"}})
	checkUnit(t, "durable x;on start{x=x;}", api.Unit{Durable: []string{"x"}, On: start(assign("x", variable("x"))).On})
}

// P6.1: at most 16 names of both kinds together.
func TestManyNames(t *testing.T) {
	var names []string
	for i := range 16 {
		names = append(names, "v"+strconv.Itoa(i))
	}
	list := strings.Join(names, ",")
	checkUnit(t, "durable "+list+";", api.Unit{Durable: names})
	checkUnit(t, "volatile "+list+";", api.Unit{Volatile: names})
	for i := 1; i < 16; i++ {
		some := "durable " + strings.Join(names[:i], ",") + ";volatile " + strings.Join(names[i:], ",")
		checkUnit(t, some+";", api.Unit{Durable: names[:i], Volatile: names[i:]})
		checkErrorAfter(t, some+",", "x", api.ErrLimit)
		checkErrorAfter(t, some+";durable ", "x;", api.ErrLimit)
		checkErrorAfter(t, some+";durable ", names[i]+";", api.ErrDup)
	}
	checkErrorAfter(t, "durable "+list+",", "x", api.ErrLimit)
	checkErrorAfter(t, "durable "+list+",", "on", api.ErrSyntax)
	checkErrorAfter(t, "durable "+list+",", "v15", api.ErrDup)
}

// P6.1: numbers of timers and of message kinds.
func TestRanges(t *testing.T) {
	for _, great := range []string{"8", "08", "29", "30", "255", "2147483647"} {
		checkErrorAfter(t, "on timer ", great+"{}", api.ErrRange)
		checkErrorAfter(t, "on timer ", great, api.ErrRange)
		checkErrorAfter(t, "on start{timer ", great+";}", api.ErrRange)
		checkErrorAfter(t, "on start{cancel ", great, api.ErrRange)
	}
	for _, great := range []string{"30", "030", "31", "40", "255", "2147483647"} {
		checkErrorAfter(t, "on message ", great+"{}", api.ErrRange)
		checkErrorAfter(t, "on message 1{}on message ", great, api.ErrRange)
		checkErrorAfter(t, "on start{send 30,", great+",31,32;}", api.ErrRange)
		checkErrorAfter(t, "on start{send 30,", great+" x", api.ErrRange)
	}
	checkUnit(t, "on start{send 99,8,98,97;}", start(numbered(api.NodeSend, 8, number(99), number(98), number(97))))
	// The first error counts, and a number that cannot stand there is not compared with a limit.
	checkErrorAfter(t, "on timer 1 ", "8{}", api.ErrSyntax)
	checkErrorAfter(t, "on start ", "8{}", api.ErrSyntax)
	checkErrorAfter(t, "on timer ", "8{timer 9;}", api.ErrRange)
}

// P6.1: handlers whose number occurred before.
func TestRepeatedHandlers(t *testing.T) {
	for _, words := range []string{"start", "request", "timer 0", "timer 7", "message 0", "message 7", "message 29"} {
		before := "on " + words + "{stop;}on message 12{}on "
		checkErrorAfter(t, before, words+"{}", api.ErrDup)
		checkErrorAfter(t, before, words, api.ErrDup)
		checkErrorAfter(t, before, words+"=", api.ErrDup)
		checkErrorAfter(t, before, strings.Replace(words, " ", "#\n00", 1)+"{}", api.ErrDup)
	}
	before := "on timer 1{}on message 1{}on start{}on "
	checkErrorAfter(t, before+"timer ", "8{}", api.ErrRange)
	checkErrorAfter(t, before+"timer ", "x{}", api.ErrSyntax)
	checkErrorAfter(t, before+"timer", "", api.ErrSyntax)
	checkErrorAfter(t, before+"message", "{}", api.ErrSyntax)
	checkErrorAfter(t, before+"message ", "30{}", api.ErrRange)
	checkErrorAfter(t, before, "message 1", api.ErrDup)
	checkErrorAfter(t, "on timer 0{}on timer 1{}on timer 2{}on ", "timer 1{x", api.ErrDup)
	// Before the repeated handler there may be another error.
	checkErrorAfter(t, "on start{timer ", "8;}on start{}", api.ErrRange)
	checkErrorAfter(t, "on start{", "on start{}", api.ErrSyntax)
}

// P6.1: levels up to 20, each opened in one of the five ways, at every place.
func TestLevels(t *testing.T) {
	levels := func(n int, open, inner, shut string) string {
		return strings.Repeat(open, n) + inner + strings.Repeat(shut, n)
	}
	for _, c := range []struct{ before, open, inner, shut, after string }{
		{"fail ", "(", "1", ")", ";"},
		{"fail ", "-", "x", "", ";"},
		{"fail ", "!", "x", "", ";"},
		{"fail ", "draw(", "x", ")", ";"},
		{"x=1+2*", "(", "1", ")", "-3;"},
		{"reply ", "-", "1", "", ",2;"},
		{"reply 1,", "(", "1", ")", ";"},
		{"send ", "(", "1", ")", ",1,2,3;"},
		{"send 1,2,", "-", "3", "", ",4;"},
		{"send 1,2,3,", "(", "1", ")", ";"},
		{"if ", "!", "x", "", "{}"},
		{"while ", "(", "1", ")", "{}"},
		{"", "if x{", "", "}", ""},
		{"", "while x{", "stop;", "}", ""},
		{"", "if x{}else{", "", "}", ""},
	} {
		source := func(n int) string {
			return "on start{" + c.before + levels(n, c.open, c.inner, c.shut) + c.after + "}on request{}"
		}
		if _, at, e := Parse(source(19)); e != api.OK {
			t.Errorf("19 levels %q in a block: %d, %v", c.open, at, e)
		}
		for _, n := range []int{20, 21, 50} {
			// The error lies at the byte that opens the level 21, which is in the 20th repetition.
			checkError(t, source(n), len("on start{"+c.before)+19*len(c.open)+strings.IndexAny(c.open, "{(!-"), api.ErrLimit)
		}
	}
}

// P6.1: levels opened in different ways add up, and end where their block or expression does.
func TestMixedLevels(t *testing.T) {
	body := func(n int) string { return "on start{" + strings.Repeat("while x{", n) } // The level of the last block is n + 1.
	for _, c := range []struct {
		n      int
		before string
		after  string // begins with the token that opens a level too many
	}{
		{15, "fail -(!(", "-1));"},
		{16, "fail -(!", "(x));"},
		{17, "if !(", "!x){}"},
		{18, "fail draw(", "(1));"},
		{19, "fail ", "(1);"},
		{19, "fail ", "-1;"},
		{19, "fail ", "!x;"},
		{19, "fail draw", "(1);"},
		{19, "if x", "{}"},
		{19, "while x", "{}"},
		{18, "if x{}else{fail ", "-1;}"},
		{18, "if x{stop;}else{if y", "{}}"},
		{17, "fail -1--1*-(", "(1));"},
		{18, "fail !x&&!", "(x);"},
		{18, "fail !x<", "-y;"},
	} {
		checkErrorAfter(t, body(c.n)+c.before, c.after, api.ErrLimit)
		whole := body(c.n-1) + c.before + c.after + strings.Repeat("}", c.n)
		if _, at, e := Parse(whole); e != api.OK {
			t.Errorf("the levels of %q: %d, %v", whole, at, e)
		}
	}
	for _, fits := range []string{
		"fail (1)+(2);", "fail -1- -1;", "fail -1*-1;", "fail -1-1-1;", "fail !x&&!y||!x;", "fail draw(1)+draw(2);", "reply -1,-2;", "send (1),2,(3),-4;",
		"if !x{}", "while -1<-2{}", "if x{}else{}", "if (x){}else{stop;}if y{}", "while x{}while y{}",
	} {
		whole := body(18) + fits + strings.Repeat("}", 19)
		if strings.Contains(fits, "{") {
			whole = body(17) + fits + fits + strings.Repeat("}", 18)
		}
		if _, at, e := Parse(whole); e != api.OK {
			t.Errorf("the levels of %q: %d, %v", whole, at, e)
		}
	}
	// Another handler begins at level 1 again, and an error of the grammar comes first.
	if _, at, e := Parse(body(19) + strings.Repeat("}", 20) + strings.Replace(body(19), "start", "request", 1) + strings.Repeat("}", 20)); e != api.OK {
		t.Errorf("two handlers with 20 levels: %d, %v", at, e)
	}
	checkErrorAfter(t, body(19), "{", api.ErrSyntax)
	checkErrorAfter(t, body(19)+"x=1*", "!x;", api.ErrSyntax)
	checkErrorAfter(t, body(19)+"x=y", "(1);", api.ErrSyntax)
}

// P6.1: the first one of several errors.
func TestFirstError(t *testing.T) {
	checkErrorAfter(t, "durable x,", "x;on timer 8{}on on", api.ErrDup)
	checkErrorAfter(t, "on timer ", "8{x}durable", api.ErrRange)
	checkErrorAfter(t, "on ", "on timer 8{}", api.ErrSyntax)
	checkErrorAfter(t, "on start{}on ", "start{timer 8;}", api.ErrDup)
	checkErrorAfter(t, "on start{fail "+strings.Repeat("-", 19), "-;timer 8;", api.ErrLimit)
}

// R4 and R5: a result does not change by writes to earlier ones, nor by calls in between.
func TestResultsAreNew(t *testing.T) {
	const source = "durable x,y;volatile z;on timer 1{x=-1+2;if x<y{stop;}}on start{sync;}"
	for range 2 {
		first, _, _ := Parse(source)
		checkError(t, source+"$", len(source), api.ErrSyntax)
		second, _, _ := Parse(source)
		spoil(first.On[1].Body)
		clear(first.On[:cap(first.On)])
		clear(first.Durable[:cap(first.Durable)])
		clear(first.Volatile[:cap(first.Volatile)])
		if got := Print(second); got != "durable x,y;volatile z;on start{sync;}on timer 1{x=-1+2;if x<y{stop;}}" {
			t.Fatalf("the program after writes to another: %q", got)
		}
	}
}

// spoil overwrites the children of a node, their spare memory included, from the last one on.
func spoil(n api.Node) {
	for i := len(n.Kids) - 1; i >= 0; i-- {
		spoil(n.Kids[i])
	}
	clear(n.Kids[:cap(n.Kids)])
}

// R4: no two slices of a result share memory, spare memory included.
func TestResultsShareNothing(t *testing.T) {
	u, _, _ := Parse("durable x,y,z;volatile v;durable w;on start{x=1;if x<y{stop;sync;sync;}else{x=y+z;}reply 1,2;}on request{stop;}")
	u.Durable = append(u.Durable, "p")
	u.Volatile = append(u.Volatile, "q")
	body := &u.On[0].Body
	body.Kids = append(body.Kids, node(api.NodeSync))
	branch := &body.Kids[1].Kids[1]
	branch.Kids = append(branch.Kids, node(api.NodeStop))
	want := "durable x,y,z,w,p;volatile v,q;on start{x=1;if x<y{stop;sync;sync;stop;}else{x=y+z;}reply 1,2;sync;}on request{stop;}"
	if got := Print(u); got != want {
		t.Errorf("the program after additions: %q", got)
	}
}

// P6.4: every field of a node counts.
func TestEqual(t *testing.T) {
	x := variable("x")
	trees := []api.Node{
		{}, {Kind: api.NodeInt}, {Kind: api.NodeInt, N: 1}, {Kind: api.NodeInt, N: -1}, {Kind: api.NodeBool, N: 1}, {Kind: -5, N: 1}, {N: 1}, {S: "x"},
		x, variable("y"), variable(""), builtIn("x"), variable("x\x00"),
		block(), block(x), block(x, x), block(x, variable("y")), block(variable("y"), x), block(block(x)), block(block(), x), block(x, block()), block(x, x, x),
		unary("-", x), unary("!", x), unary("-", unary("-", x)), pair(x, "-", x), pair(x, "+", x), pair(x, "+", pair(x, "+", x)), pair(pair(x, "+", x), "+", x),
		numbered(api.NodeSend, 1, x, x, x), numbered(api.NodeSend, 2, x, x, x),
	}
	for i, a := range trees {
		for j, b := range trees {
			if Equal(a, b) != (i == j) {
				t.Errorf("Equal(%v, %v) = %t", a, b, Equal(a, b))
			}
		}
	}
	if !Equal(api.Node{Kids: []api.Node{}}, api.Node{}) || !Equal(block(x), block(api.Node{Kind: api.NodeVar, S: "x", Kids: []api.Node{}})) {
		t.Error("a nil and an empty list of children are not equal")
	}
}

// P6.4 and R1: trees of 2^16 nodes, deep and wide ones.
func TestEqualOfGreatTrees(t *testing.T) {
	deep := func(last api.Node) api.Node {
		for range 1<<16 - 1 {
			last = block(last)
		}
		return last
	}
	if !Equal(deep(number(1)), deep(number(1))) || Equal(deep(number(1)), deep(number(2))) || Equal(deep(number(1)), deep(block(number(1)))) {
		t.Error("deep trees are compared wrongly")
	}
	wide := func(last api.Node) api.Node { return block(append(make([]api.Node, 1<<16-2), last)...) }
	if !Equal(wide(number(1)), wide(number(1))) || Equal(wide(number(1)), wide(number(2))) {
		t.Error("wide trees are compared wrongly")
	}
}

// P6.4: names in order, and handlers with their numbers and bodies.
func TestSame(t *testing.T) {
	handlers := func(numbers ...int) []api.Handler {
		var l []api.Handler
		for _, n := range numbers {
			l = append(l, on(n, block(number(n%3))))
		}
		return l
	}
	units := []api.Unit{
		{}, {Durable: []string{"x"}}, {Volatile: []string{"x"}}, {Durable: []string{"y"}}, {Durable: []string{""}},
		{Durable: []string{"x", "y"}}, {Durable: []string{"y", "x"}}, {Durable: []string{"x"}, Volatile: []string{"y"}}, {Durable: []string{"y"}, Volatile: []string{"x"}}, {Volatile: []string{"x", "y"}},
		{On: handlers(0)}, {On: handlers(1)}, {On: handlers(0, 1)}, {On: handlers(0, 1, 2)}, {On: handlers(3)}, {On: handlers(1, 0)}, {Durable: []string{"x"}, On: handlers(0)},
		start(number(1)), start(number(0), number(0)), start(block(number(0))),
	}
	for i, a := range units {
		for j, b := range units {
			if Same(a, b) != (i == j) {
				t.Errorf("Same(%v, %v) = %t", a, b, Same(a, b))
			}
		}
	}
	if !Same(api.Unit{Durable: []string{}, Volatile: []string{}, On: []api.Handler{}}, api.Unit{}) {
		t.Error("nil and empty lists are not the same")
	}
}

// checkPrint fails the test unless a program is printed like this.
func checkPrint(t *testing.T, source, want string) {
	t.Helper()
	u, at, e := Parse(source)
	if got := Print(u); e != api.OK || got != want {
		t.Errorf("the program %q: %q, %d, %v, want %q", source, got, at, e, want)
	}
}

// P6.3: declarations and handlers.
func TestPrintUnits(t *testing.T) {
	checkPrint(t, " # nothing", "")
	checkPrint(t, "volatile v ; durable d , e ; volatile w ; durable f ;", "durable d,e,f;volatile v,w;")
	checkPrint(t, "volatile v;", "volatile v;")
	checkPrint(t, "on message 010 { } on message 9 { } on timer 0 { } on timer 07 { } on request { } on start { }", "on start{}on request{}on timer 0{}on timer 7{}on message 9{}on message 10{}")
	checkPrint(t, "volatile on1; on start { }", "volatile on1;on start{}")
	if got := Print(api.Unit{}); got != "" {
		t.Errorf("the empty program: %q", got)
	}
}

// P6.3: statements, and the blanks between their tokens.
func TestPrintStatements(t *testing.T) {
	for _, statement := range []string{
		"x=y;", "x=-y;", "x=!y;", "x=(!y)<z;", "timer 0;", "timer 7;", "cancel 3;", "sync;", "stop;", "reply x,-y;", "reply-x,y;", "fail x;", "fail-x;", "fail!x;", "fail(x+y)*z;", "fail draw(2);",
		"send x,12,y,z;", "send-x,0,-y,-z;", "send(x+y)*z,1,2,3;", "send draw(nodes),29,now,id;",
		"if x{}", "if!x{}", "if(x+y)*z<1{sync;}", "if x{}else{stop;}", "if x{stop;}else{if y{}}", "if x{if y{}else{stop;}}", "if true{x=false;}",
		"while x{}", "while!x{while 1<2{}stop;}", "while(x||y)&&z{}",
	} {
		checkPrint(t, "on start{"+statement+"}", "on start{"+statement+"}")
	}
	checkPrint(t, "on start { if ( x ) { } else { } }", "on start{if x{}}")
	checkPrint(t, "on start { if x { } else { if y { } else { } } }", "on start{if x{}else{if y{}}}")
	checkPrint(t, "on start { send ( x ) , 007 , ( ( 01 ) ) , 00 ; timer 03 ; cancel 00 ; }", "on start{send x,7,1,0;timer 3;cancel 0;}")
	checkPrint(t, "on start { while ( 1 ) { } } ", "on start{while 1{}}")
}

// P6.3: the parentheses that the grammar requires, and no others.
func TestPrintParentheses(t *testing.T) {
	for _, expr := range []string{
		"x||y||z", "x||(y||z)", "x&&y&&z", "x&&(y&&z)", "x||y&&z", "(x||y)&&z", "x&&(y||z)", "x&&y||z",
		"x+y+z", "x+(y+z)", "x-y-z", "x-(y-z)", "x+(y-z)", "x*y*z", "x*(y*z)", "x/y/z", "x/(y*z)", "x*(y+z)", "(x+y)*z", "x*y+z", "x-y*z",
		"x<y", "(x<y)==z", "x==(y<z)", "(x<y)==(y<z)", "x+y<y*z", "(x<y)+z", "(x&&y)<z", "x<(y||z)", "x<y&&y<z", "x<y||!y<z",
		"!x", "!!x", "!x<y", "(!x)<y", "x<(!y)", "!(x&&y)", "!(x||y)", "!x&&y", "x&&!y", "(!x)+y", "x*(!y)", "-(!x)", "!-x", "!x+y", "!x==y&&z",
		"-x", "--x", "-(x+y)", "-(x*y)", "-x*y", "x*-y", "x--y", "x- -y", "-(x<y)", "-(x||y)",
		"draw(x)", "draw(x||y)", "draw(!x)", "draw(draw(1))*2", "-draw(x)", "!draw(x)",
	} {
		want := "on start{x=" + strings.ReplaceAll(expr, " ", "") + ";}"
		checkPrint(t, "on start{x="+expr+";}", want)
		checkPrint(t, "on start{x=( ("+expr+") );}", want)
	}
	checkPrint(t, "on start{x=((x)*(y))+((z));}", "on start{x=x*y+z;}")
	checkPrint(t, "on start{x=(x||y)||(z&&x);}", "on start{x=x||y||z&&x;}")
	checkPrint(t, "on start{x=draw((1));}", "on start{x=draw(1);}")
}

// R4: printing and comparing do not change their arguments.
func TestArgumentsAreKept(t *testing.T) {
	const source = "volatile z;durable x,y;on start{if!x{y=draw(2);}else{}}on request{reply id,-(x+1);}"
	u, _, _ := Parse(source)
	v, _, _ := Parse(source)
	text := Print(u)
	if !Same(u, v) || !Equal(u.On[1].Body, v.On[1].Body) || Print(u) != text || !slices.Equal(u.Durable, []string{"x", "y"}) {
		t.Errorf("the program was changed: %v, want %v", u, v)
	}
}

// R1: printing does not panic where a tree is no result of Parse.
func TestPrintOfOtherTrees(t *testing.T) {
	for kind := -1; kind <= api.NodeBinary+1; kind++ {
		for _, n := range []int{-1, 0, 2} {
			other := api.Node{Kind: kind, N: n}
			Print(start(other))
			Print(start(node(api.NodeFail, other)))
			Print(api.Unit{Durable: []string{""}, On: []api.Handler{{Number: n, Body: other}}})
		}
	}
	if got := Print(start(node(api.NodeIf))); got != "" {
		t.Errorf("an if without children: %q", got)
	}
}
