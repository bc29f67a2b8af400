package parser

import (
	"math/rand"
	"slices"
	"strconv"
	"strings"
	"testing"

	"simproof/api"
	"simproof/lexer"
)

// checkDefined compares the error of a source with the definitions.
func checkDefined(t *testing.T, r recognizer, source string) {
	t.Helper()
	wantAt, want := definedError(r, source)
	u, at, e := Parse(source)
	if at != wantAt || e != want || e != api.OK && !Same(u, api.Unit{}) {
		t.Fatalf("the error of %q: %v, %d, %v, want %d, %v", source, u, at, e, wantAt, want)
	}
}

// P6.1: all short sequences of tokens in several places, each up to the first token that cannot follow.
func TestAllShortSequences(t *testing.T) {
	for _, c := range []struct {
		before, words string
		most          int
	}{
		{"", "durable volatile x y a on start timer message 0 1 9 , ; { }", 9},
		{"on timer 1{}", "on start timer message 0 1 9 30 { } durable", 8},
		{"on start{", "x a true = == 1 if else while ; { } , on", 8},
		{"on start{", "send timer cancel sync stop reply fail 8 30 , ; }", 9},
		{"on start{fail", "x 1 a true draw ! - ( ) < + * && || ;", 5},
		{"on start{if x", "else { } ; - ! < == x", 7},
		{"on start{" + strings.Repeat("if x{", 18) + "fail", "x ! - ( ) < + && ; draw", 6},
		{"on start{" + strings.Repeat("if x{", 18), "if while x { } else ; fail -", 7},
	} {
		first := newRecognizer()
		tokens, _, _ := lexer.Tokens(c.before)
		reached := first
		for _, token := range tokens[:len(tokens)-1] {
			reached = reached.after(token.Text)
		}
		var extend func(source string, r recognizer, left int)
		extend = func(source string, r recognizer, left int) {
			checkDefined(t, first, source)
			if left == 0 || r.stacks == nil {
				return
			}
			for _, word := range strings.Fields(c.words) {
				extend(source+" "+word, r.after(word), left-1)
			}
		}
		extend(c.before, reached, c.most)
	}
}

// maker makes random programs together with their trees.
type maker struct {
	r       *rand.Rand
	names   []string
	wild    bool // numbers, names and handlers may exceed limits and occur again
	nesting int  // how many blocks and parentheses may lie within one another
}

// oneOf returns a random word.
func (m *maker) oneOf(words string) string {
	l := strings.Fields(words)
	return l[m.r.Intn(len(l))]
}

// below returns a random number, which may be a little too great if the program is wild, as a token and as a value.
func (m *maker) below(limit int) (string, int) {
	if m.wild && m.r.Intn(4) == 0 {
		limit += 3
	}
	n := m.r.Intn(limit)
	return strings.Repeat("0", m.r.Intn(4)/3) + strconv.Itoa(n), n
}

// expr returns the tokens of a random expression.
func (m *maker) expr(depth int) []string {
	return m.chain(depth, "||", 6, func() []string {
		return m.chain(depth, "&&", 6, func() []string { return m.not(depth) })
	})
}

// chain returns operands with random operators between them, on average one operator in so many chains.
func (m *maker) chain(depth int, operators string, rare int, operand func() []string) []string {
	l := operand()
	for m.r.Intn(rare) == 0 {
		l = append(append(l, m.oneOf(operators)), operand()...)
	}
	return l
}

func (m *maker) not(depth int) []string {
	if depth > 0 && m.r.Intn(6) == 0 {
		return append([]string{"!"}, m.not(depth-1)...)
	}
	l := m.sum(depth)
	if m.r.Intn(5) == 0 {
		l = append(append(l, m.oneOf("< <= > >= == !=")), m.sum(depth)...)
	}
	return l
}

func (m *maker) sum(depth int) []string {
	return m.chain(depth, "+ -", 5, func() []string {
		return m.chain(depth, "* /", 5, func() []string { return m.unary(depth) })
	})
}

func (m *maker) unary(depth int) []string {
	switch {
	case depth > 0 && m.r.Intn(6) == 0:
		return append([]string{"-"}, m.unary(depth-1)...)
	case depth > 0 && m.r.Intn(3) == 0:
		return append(append([]string{"("}, m.expr(depth-1)...), ")")
	case depth > 0 && m.r.Intn(8) == 0:
		return append(append([]string{"draw", "("}, m.expr(depth-1)...), ")")
	case m.r.Intn(3) == 0:
		return []string{m.oneOf("true false 0 1 02 2147483647 " + builtInWords)}
	}
	return []string{m.oneOf("x y z1 onx c")}
}

// block returns the tokens and the tree of a random block.
func (m *maker) block(depth int) ([]string, api.Node) {
	tokens, n := []string{"{"}, block()
	for m.r.Intn(5) > 1 {
		l, kid := m.statement(depth)
		tokens = append(tokens, l...)
		n.Kids = append(n.Kids, kid)
	}
	return append(tokens, "}"), n
}

// statement returns the tokens and the tree of a random statement.
func (m *maker) statement(depth int) ([]string, api.Node) {
	e := m.expr(depth)
	x := definedExpr(e)
	digits, n := m.below(8)
	switch kind := m.r.Intn(12); {
	case kind < 3 && depth > 0:
		return m.branch(e, depth-1)
	case kind == 3:
		digits, n = m.below(30)
		f, g := m.expr(depth), m.expr(depth)
		return slices.Concat([]string{"send"}, e, []string{",", digits, ","}, f, []string{","}, g, []string{";"}), numbered(api.NodeSend, n, x, definedExpr(f), definedExpr(g))
	case kind == 4:
		return []string{"timer", digits, ";"}, numbered(api.NodeTimer, n)
	case kind == 5:
		return []string{"cancel", digits, ";"}, numbered(api.NodeCancel, n)
	case kind == 6:
		f := m.expr(depth)
		return slices.Concat([]string{"reply"}, e, []string{","}, f, []string{";"}), node(api.NodeReply, x, definedExpr(f))
	case kind == 7:
		return slices.Concat([]string{"fail"}, e, []string{";"}), node(api.NodeFail, x)
	case kind == 8:
		return []string{"sync", ";"}, node(api.NodeSync)
	case kind == 9:
		return []string{"stop", ";"}, node(api.NodeStop)
	}
	name := m.oneOf("x y z1 onx c")
	return slices.Concat([]string{name, "="}, e, []string{";"}), assign(name, x)
}

// branch returns the tokens and the tree of a random if or while with a condition.
func (m *maker) branch(condition []string, depth int) ([]string, api.Node) {
	body, yes := m.block(depth)
	if m.r.Intn(3) == 0 {
		return slices.Concat([]string{"while"}, condition, body), node(api.NodeWhile, definedExpr(condition), yes)
	}
	tokens, no := slices.Concat([]string{"if"}, condition, body), block()
	if m.r.Intn(2) == 0 {
		var other []string
		other, no = m.block(depth)
		tokens = slices.Concat(tokens, []string{"else"}, other)
	}
	return tokens, node(api.NodeIf, definedExpr(condition), yes, no)
}

// declaration returns the tokens of a random declaration and adds its names to the program.
func (m *maker) declaration(u *api.Unit) []string {
	word, names := "durable", &u.Durable
	if m.r.Intn(2) == 0 {
		word, names = "volatile", &u.Volatile
	}
	tokens := []string{word}
	for range 1 + m.r.Intn(4) {
		name := m.names[0]
		if m.wild && m.r.Intn(30) == 0 {
			name = m.oneOf("v0 v1")
		} else {
			m.names = m.names[1:]
		}
		*names = append(*names, name)
		tokens = append(tokens, name, ",")
	}
	tokens[len(tokens)-1] = ";"
	return tokens
}

// handler returns the tokens of a random handler, and its number and tree.
func (m *maker) handler(number int) ([]string, api.Handler) {
	tokens := []string{"on"}
	switch {
	case number == 0:
		tokens = append(tokens, "start")
	case number == 1:
		tokens = append(tokens, "request")
	case number < 10:
		tokens = append(tokens, "timer", strconv.Itoa(number-2))
	default:
		tokens = append(tokens, "message", strings.Repeat("0", m.r.Intn(3)/2)+strconv.Itoa(number-10))
	}
	body, n := m.block(m.nesting)
	return append(tokens, body...), api.Handler{Number: number, Body: n}
}

// program returns the tokens of a random program, part by part (the declarations first), and its tree.
func (m *maker) program() (declarations, handlers [][]string, u api.Unit) {
	m.names = nil
	for i := range 30 {
		m.names = append(m.names, "v"+strconv.Itoa(i))
	}
	most := 5
	if m.wild && m.r.Intn(3) == 0 {
		most = 9
	}
	for range m.r.Intn(most) {
		declarations = append(declarations, m.declaration(&u))
	}
	if !m.wild && len(u.Durable)+len(u.Volatile) > 16 {
		return m.program()
	}
	numbers := m.r.Perm(api.Handlers)[:m.r.Intn(4)]
	if m.wild && len(numbers) > 0 && m.r.Intn(4) == 0 {
		numbers = append(numbers, numbers[0])
	}
	for _, number := range numbers {
		tokens, h := m.handler(number)
		handlers = append(handlers, tokens)
		u.On = append(u.On, h)
	}
	slices.SortFunc(u.On, func(a, b api.Handler) int { return a.Number - b.Number })
	return declarations, handlers, u
}

// join returns the parts of a program in a row.
func join(declarations, handlers [][]string) []string {
	return slices.Concat(slices.Concat(declarations...), slices.Concat(handlers...))
}

// isWordByte reports whether a byte is a letter or a digit.
func isWordByte(b byte) bool {
	return strings.IndexByte("abcdefghijklmnopqrstuvwxyz0123456789", b) >= 0
}

// tight returns a source with white space only where tokens would become one.
func tight(tokens []string) string {
	var source []byte
	for _, token := range tokens {
		if n := len(source); n > 0 && isWordByte(source[n-1]) && isWordByte(token[0]) {
			source = append(source, ' ')
		}
		source = append(source, token...)
	}
	return string(source)
}

// loose returns a source with random white space between the tokens, and around them.
func (m *maker) loose(tokens []string) string {
	spaces := []string{"", " ", "\n", "\t \t", "#\n", "# on start{ $\n"}
	source := []byte(spaces[m.r.Intn(len(spaces))])
	for _, token := range tokens {
		space := spaces[max(0, m.r.Intn(2*len(spaces))-len(spaces))]
		if n := len(source); space == "" && n > 0 && isWordByte(source[n-1]) && isWordByte(token[0]) {
			space = " "
		}
		source = append(append(source, space...), token...)
	}
	return string(source) + spaces[m.r.Intn(len(spaces))]
}

// fitting calls a function with random programs that fit into the limits.
func fitting(seed int64, count int, f func(m *maker, declarations, handlers [][]string, u api.Unit)) {
	m := &maker{r: rand.New(rand.NewSource(seed)), nesting: 3}
	for count > 0 {
		declarations, handlers, u := m.program()
		if len(tight(join(declarations, handlers))) <= 1000 {
			count--
			f(m, declarations, handlers, u)
		}
	}
}

// P6.1 and P6.2: random programs have the trees with which they were made.
func TestTrees(t *testing.T) {
	r := newRecognizer()
	fitting(1, 1500, func(m *maker, declarations, handlers [][]string, u api.Unit) {
		source := tight(join(declarations, handlers))
		checkUnit(t, source, u)
		checkDefined(t, r, source)
	})
}

// P6.1: random expressions have the trees that follow from splitting them.
func TestExprTrees(t *testing.T) {
	m := &maker{r: rand.New(rand.NewSource(2))}
	for range 10000 {
		tokens := m.expr(m.r.Intn(6))
		if source := tight(tokens); len(source) < 2900 {
			checkExpr(t, source, definedExpr(tokens))
		}
	}
}

// P6.1: random programs, some of which exceed limits or repeat themselves.
func TestWildPrograms(t *testing.T) {
	r := newRecognizer()
	m := &maker{r: rand.New(rand.NewSource(3)), wild: true}
	found := map[api.Errno]int{}
	for range 2500 {
		m.nesting = 1 + m.r.Intn(3)
		declarations, handlers, _ := m.program()
		source := m.loose(join(declarations, handlers))
		_, e := definedError(r, source)
		found[e]++
		checkDefined(t, r, source)
	}
	for _, e := range []api.Errno{api.OK, api.ErrDup, api.ErrLimit, api.ErrRange} {
		if found[e] < 50 {
			t.Errorf("the error %v occurred only %d times", e, found[e])
		}
	}
}

// P6.1: random expressions whose levels go up to the limit and beyond.
func TestDeepExpressions(t *testing.T) {
	r := newRecognizer()
	m := &maker{r: rand.New(rand.NewSource(4))}
	found := map[api.Errno]int{}
	for range 2000 {
		var tokens []string
		for range 10 + m.r.Intn(30) {
			tokens = append(tokens, strings.Fields(m.oneOf("( ( ( - - ! draw|( (|!|x|&& (|x|+|1|- x|< 1|*|- x|&&|! -|x|-"))...)
			last := len(tokens) - 1
			tokens = append(tokens[:last], strings.Split(tokens[last], "|")...)
			if m.r.Intn(6) == 0 {
				tokens = append(tokens, "x", ")", m.oneOf("+ && * <"))
			}
		}
		// Where a token cannot follow, another one takes its place, so that most expressions become long.
		reached, kept := r.after("on").after("start").after("{").after("fail"), []string{"on", "start", "{", "fail"}
		for _, token := range tokens {
			if next := reached.after(token); next.stacks != nil {
				reached, kept = next, append(kept, token)
			} else if next := reached.after("("); next.stacks != nil {
				reached, kept = next, append(kept, "(")
			}
		}
		source := tight(kept)
		_, e := definedError(r, source)
		found[e]++
		checkDefined(t, r, source)
	}
	if found[api.ErrLimit] < 200 || found[api.ErrSyntax] < 200 {
		t.Errorf("the errors occurred too rarely: %v", found)
	}
}

// P6.1: programs of which a token was removed, replaced, doubled or exchanged with the next one.
func TestChangedPrograms(t *testing.T) {
	r := newRecognizer()
	words := "durable on start timer message if else while send sync reply fail true draw self x y 0 9 30 { } ( ) = ; , < + - * / ! && || [ ]"
	fitting(5, 600, func(m *maker, declarations, handlers [][]string, u api.Unit) {
		tokens := join(declarations, handlers)
		for range 8 {
			l := slices.Clone(tokens)
			if len(l) < 2 {
				return
			}
			switch i := m.r.Intn(len(l) - 1); m.r.Intn(5) {
			case 0:
				l = slices.Delete(l, i, i+1)
			case 1:
				l[i] = m.oneOf(words)
			case 2:
				l = slices.Insert(l, i, l[i])
			case 3:
				l[i], l[i+1] = l[i+1], l[i]
			case 4:
				l = slices.Insert(l, i, m.oneOf(words))
			}
			checkDefined(t, r, m.loose(l))
		}
	})
}

// P6.3 and P6.5: what is printed has the same tree, and is printed as it is.
func TestRoundTrip(t *testing.T) {
	fitting(6, 1500, func(m *maker, declarations, handlers [][]string, u api.Unit) {
		text := Print(u)
		checkUnit(t, text, u)
		again, _, _ := Parse(text)
		if got := Print(again); got != text {
			t.Fatalf("%q is printed as %q", text, got)
		}
	})
}

// P6.5: the round trip succeeds for programs at the limits, because what is printed is no longer than the source.
func TestRoundTripAtLimits(t *testing.T) {
	whole := "volatile x;on start{" + strings.Repeat("while x{", 10) + "fail-(x+-(x+-(x+-(!x))));" + strings.Repeat("}", 11) + "on request{"
	left := api.MaxSource - len(whole) - len("x=;}")
	whole += "x=" + "12"[:2-left%2] + strings.Repeat("+1", (left-1)/2) + ";}"
	if len(whole) != api.MaxSource {
		t.Fatalf("the source has %d bytes", len(whole))
	}
	u, at, e := Parse(whole)
	if e != api.OK || Print(u) != whole {
		t.Errorf("the program is printed as %q: %d, %v", Print(u), at, e)
	}
	m := &maker{r: rand.New(rand.NewSource(7)), nesting: 4}
	for range 500 {
		declarations, handlers, _ := m.program()
		source := tight(join(declarations, handlers))
		if u, _, e := Parse(source); e == api.OK && len(Print(u)) > len(source) {
			t.Fatalf("%q is printed with more bytes: %q", source, Print(u))
		}
	}
}

// P6.3: what is printed has the form that the chapter asks for.
func TestPrintedForm(t *testing.T) {
	fitting(8, 600, func(m *maker, declarations, handlers [][]string, u api.Unit) {
		text := Print(u)
		list, _, _ := lexer.Tokens(text)
		var tokens []string
		for _, token := range list[:len(list)-1] {
			tokens = append(tokens, token.Text)
			if token.Kind == lexer.Number && token.Text != strconv.Itoa(token.N) {
				t.Fatalf("a number of %q is not canonical", text)
			}
		}
		if tight(tokens) != text {
			t.Fatalf("the white space of %q is not canonical", text)
		}
		// Names, numbers and blocks are those of the tree, and so the rest is determined up to parentheses.
		want := slices.DeleteFunc(canonical(u), isParenthesis)
		if got := slices.DeleteFunc(slices.Clone(tokens), isParenthesis); !slices.Equal(got, want) {
			t.Fatalf("the tokens of %q without parentheses: %q, want %q", text, got, want)
		}
		checkParentheses(t, tokens, u)
	})
}

// isParenthesis reports whether a token opens or closes parentheses.
func isParenthesis(token string) bool { return token == "(" || token == ")" }

// canonical returns the tokens of a program in the chapter's order, with more parentheses than needed.
func canonical(u api.Unit) []string {
	var l []string
	for _, names := range [][]string{u.Durable, u.Volatile} {
		word := "durable"
		if len(l) > 0 && l[0] == word || len(u.Durable) == 0 {
			word = "volatile"
		}
		for _, name := range names {
			l = append(l, word, name)
			word = ","
		}
		if len(names) > 0 {
			l = append(l, ";")
		}
	}
	for _, h := range u.On {
		words := []string{"on", "start"}
		switch {
		case h.Number == 1:
			words = []string{"on", "request"}
		case h.Number >= 10:
			words = []string{"on", "message", strconv.Itoa(h.Number - 10)}
		case h.Number >= 2:
			words = []string{"on", "timer", strconv.Itoa(h.Number - 2)}
		}
		l = slices.Concat(l, words, parenthesized(h.Body))
	}
	return l
}

// parenthesized returns the tokens of a tree with parentheses around every expression, and no else with an empty block.
func parenthesized(n api.Node) []string {
	var kids [][]string
	for _, kid := range n.Kids {
		kids = append(kids, parenthesized(kid))
	}
	one := func(words ...string) []string { return words }
	digits := strconv.Itoa(n.N)
	switch n.Kind {
	case api.NodeBlock:
		return slices.Concat(one("{"), slices.Concat(kids...), one("}"))
	case api.NodeAssign:
		return slices.Concat(one(n.S, "="), kids[0], one(";"))
	case api.NodeIf:
		if len(n.Kids[2].Kids) == 0 {
			return slices.Concat(one("if"), kids[0], kids[1])
		}
		return slices.Concat(one("if"), kids[0], kids[1], one("else"), kids[2])
	case api.NodeWhile:
		return slices.Concat(one("while"), kids[0], kids[1])
	case api.NodeSend:
		return slices.Concat(one("send"), kids[0], one(",", digits, ","), kids[1], one(","), kids[2], one(";"))
	case api.NodeTimer:
		return one("timer", digits, ";")
	case api.NodeCancel:
		return one("cancel", digits, ";")
	case api.NodeSync:
		return one("sync", ";")
	case api.NodeStop:
		return one("stop", ";")
	case api.NodeReply:
		return slices.Concat(one("reply"), kids[0], one(","), kids[1], one(";"))
	case api.NodeFail:
		return slices.Concat(one("fail"), kids[0], one(";"))
	case api.NodeInt:
		return one("(", digits, ")")
	case api.NodeBool:
		return one("(", map[int]string{0: "false", 1: "true"}[n.N], ")")
	case api.NodeDraw:
		return slices.Concat(one("draw", "("), kids[0], one(")"))
	case api.NodeUnary:
		return slices.Concat(one("(", n.S), kids[0], one(")"))
	case api.NodeBinary:
		return slices.Concat(one("("), kids[0], one(n.S), kids[1], one(")"))
	}
	return one("(", n.S, ")")
}

// checkParentheses fails the test if a pair of parentheses can be left out.
func checkParentheses(t *testing.T, tokens []string, u api.Unit) {
	t.Helper()
	for open, token := range tokens {
		if token != "(" || tokens[open-1] == "draw" {
			continue
		}
		shut := matching(tokens, open)
		source := tight(slices.Concat(tokens[:open], tokens[open+1:shut], tokens[shut+1:]))
		if v, _, e := Parse(source); e == api.OK && Same(u, v) {
			t.Fatalf("the program %q needs fewer parentheses: %q", tight(tokens), source)
		}
	}
}

// matching returns the index of the parenthesis that closes another one.
func matching(tokens []string, open int) int {
	depth := 1
	for i := open + 1; ; i++ {
		switch tokens[i] {
		case "(":
			depth++
		case ")":
			depth--
		}
		if depth == 0 {
			return i
		}
	}
}

// P6.3: of all ways to leave out parentheses of an expression, the shortest one with the same tree is printed.
func TestShortestExpressions(t *testing.T) {
	m := &maker{r: rand.New(rand.NewSource(9))}
	for range 3000 {
		tokens := append(append([]string{"("}, m.expr(3)...), ")")
		var pairs [][2]int
		for i, token := range tokens {
			if token == "(" && (i == 0 || tokens[i-1] != "draw") {
				pairs = append(pairs, [2]int{i, matching(tokens, i)})
			}
		}
		if len(pairs) > 7 {
			continue
		}
		for i, token := range tokens {
			if token == "02" {
				tokens[i] = "2"
			}
		}
		want := definedExpr(tokens)
		var shortest string
		for set := range 1 << len(pairs) {
			if source := without(tokens, pairs, set); shortest == "" || len(source) < len(shortest) {
				if u, _, e := Parse(source); e == api.OK && Same(u, start(node(api.NodeFail, want))) {
					shortest = source
				}
			}
		}
		if got := Print(start(node(api.NodeFail, want))); got != shortest {
			t.Fatalf("%q is printed as %q, want %q", tokens, got, shortest)
		}
	}
}

// without returns a program with an expression of which a set of pairs is left out.
func without(tokens []string, pairs [][2]int, set int) string {
	kept := []string{"on", "start", "{", "fail"}
	for i, token := range tokens {
		left := false
		for k, pair := range pairs {
			left = left || set>>k&1 == 1 && (pair[0] == i || pair[1] == i)
		}
		if !left {
			kept = append(kept, token)
		}
	}
	return tight(append(kept, ";", "}"))
}

// P6.6: white space, comments and the order of handlers and declarations do not matter.
func TestOtherSources(t *testing.T) {
	fitting(10, 500, func(m *maker, declarations, handlers [][]string, u api.Unit) {
		for range 3 {
			m.r.Shuffle(len(handlers), func(i, k int) { handlers[i], handlers[k] = handlers[k], handlers[i] })
			source := m.loose(join(m.interleaved(declarations), handlers))
			if len(source) <= api.MaxSource {
				checkUnit(t, source, u)
			}
		}
	})
}

// interleaved returns the declarations of both kinds in another order, those of one kind in the same one.
func (m *maker) interleaved(declarations [][]string) [][]string {
	var durable, volatile, l [][]string
	for _, d := range declarations {
		if d[0] == "durable" {
			durable = append(durable, d)
		} else {
			volatile = append(volatile, d)
		}
	}
	for len(durable)+len(volatile) > 0 {
		if len(durable) > 0 && (len(volatile) == 0 || m.r.Intn(2) == 0) {
			l, durable = append(l, durable[0]), durable[1:]
		} else {
			l, volatile = append(l, volatile[0]), volatile[1:]
		}
	}
	return l
}

// P6.6: redundant parentheses do not matter.
func TestRedundantParentheses(t *testing.T) {
	fitting(11, 500, func(m *maker, _, _ [][]string, u api.Unit) {
		tokens := canonical(u)
		if source := tight(tokens); len(source) <= api.MaxSource {
			if _, e := definedError(newRecognizer(), source); e == api.OK {
				checkUnit(t, source, u)
			}
		}
	})
}

// P6.7: every proper prefix that ends within a handler.
func TestPrefixes(t *testing.T) {
	fitting(12, 100, func(m *maker, declarations, handlers [][]string, _ api.Unit) {
		before := slices.Concat(declarations...)
		for _, handler := range handlers {
			for n := 1; n < len(handler); n++ {
				l := slices.Concat(before, handler[:n])
				source := tight(l)
				checkError(t, source, len(source), api.ErrSyntax)
				if source = m.loose(l) + " # open"; len(source) <= api.MaxSource {
					checkError(t, source, len(source), api.ErrSyntax)
				}
			}
			before = append(before, handler...)
		}
	})
}

// P6.4: equality is that of the tokens.
func TestEqualityOfPrograms(t *testing.T) {
	type made struct {
		u            api.Unit
		tokens, body string
	}
	var list []made
	m := &maker{r: rand.New(rand.NewSource(13)), nesting: 1}
	for range 400 {
		_, _, u := m.program()
		if m.r.Intn(2) == 0 || len(u.On) == 0 {
			_, n := m.statement(0)
			u = start(n)
		}
		list = append(list, made{u, tight(canonical(u)), tight(parenthesized(u.On[0].Body))})
	}
	equal := 0
	for i, a := range list {
		for k, b := range list {
			if got, want := Same(a.u, b.u), a.tokens == b.tokens; got != want {
				t.Fatalf("Same(%v, %v) = %t", a.u, b.u, got)
			}
			if got, want := Equal(a.u.On[0].Body, b.u.On[0].Body), a.body == b.body; got != want {
				t.Fatalf("Equal(%v, %v) = %t", a.u.On[0].Body, b.u.On[0].Body, got)
			}
			if a.tokens == b.tokens && i != k {
				equal++
			}
		}
	}
	if equal < 100 {
		t.Errorf("only %d pairs are equal", equal)
	}
}
