package types

import (
	"math/rand"
	"slices"
	"strconv"
	"strings"
	"testing"

	"simproof/api"
	"simproof/parser"
)

// maker makes random sources in which every operator with its operands stands in parentheses.
type maker struct {
	r     *rand.Rand
	wrong int // one in so many expressions has another type than it should
}

// oneOf returns a random word.
func (m *maker) oneOf(words string) string {
	l := strings.Fields(words)
	return l[m.r.Intn(len(l))]
}

// The names in random programs.
const allNames = "n0 n1 n2 n3 n4"

// expr returns a random expression, mostly of this type.
func (m *maker) expr(want Type, depth int) string {
	if m.r.Intn(m.wrong) == 0 {
		want = Int + Bool - want
	}
	if want == Bool {
		return m.truth(depth)
	}
	switch kind := m.r.Intn(8); {
	case depth == 0 || kind < 3:
		return m.oneOf("0 1 12 " + allNames + " " + builtIns)
	case kind == 3:
		return "draw(" + m.expr(Int, depth-1) + ")"
	case kind == 4:
		return "(-" + m.expr(Int, depth-1) + ")"
	}
	return "(" + m.expr(Int, depth-1) + m.oneOf(arithmetic) + m.expr(Int, depth-1) + ")"
}

// truth returns a random expression, mostly of type Bool.
func (m *maker) truth(depth int) string {
	switch kind := m.r.Intn(8); {
	case depth == 0 || kind == 0:
		return m.oneOf("true false")
	case kind == 1:
		return "(!" + m.expr(Bool, depth-1) + ")"
	case kind < 5:
		return "(" + m.expr(Bool, depth-1) + m.oneOf(connectives) + m.expr(Bool, depth-1) + ")"
	}
	return "(" + m.expr(Int, depth-1) + m.oneOf(comparisons) + m.expr(Int, depth-1) + ")"
}

// block returns a random block.
func (m *maker) block(depth int) string {
	source := "{"
	for m.r.Intn(3) > 0 {
		source += m.statement(depth)
	}
	return source + "}"
}

// statement returns a random statement.
func (m *maker) statement(depth int) string {
	number := func() string { return m.expr(Int, 2) }
	switch kind := m.r.Intn(11); {
	case kind == 0 && depth > 0:
		return "while " + m.expr(Bool, 2) + m.block(depth-1)
	case kind < 3 && depth > 0:
		source := "if " + m.expr(Bool, 2) + m.block(depth-1)
		if m.r.Intn(2) == 0 {
			source += "else" + m.block(depth-1)
		}
		return source
	case kind == 3:
		return "send " + number() + ",7," + number() + "," + number() + ";"
	case kind == 4:
		return "reply " + number() + "," + number() + ";"
	case kind == 5:
		return "fail " + number() + ";"
	case kind == 6:
		return m.oneOf("timer cancel") + " 7;"
	case kind == 7:
		return m.oneOf("sync stop") + ";"
	}
	return m.oneOf(allNames) + "=" + number() + ";"
}

// program is a program in parts.
type program struct {
	durable, volatile []string
	handlers          []string // on and the number of a handler
	blocks            []string
}

// program returns a random program, in which now and then a name is not declared.
func (m *maker) program() program {
	var p program
	for _, i := range m.r.Perm(5) {
		name := "n" + strconv.Itoa(i)
		switch kind := m.r.Intn(15); {
		case kind < 7:
			p.durable = append(p.durable, name)
		case kind < 14:
			p.volatile = append(p.volatile, name)
		}
	}
	words := strings.Split("start,request,timer 0,timer 7,message 0,message 29", ",")
	for _, i := range m.r.Perm(len(words))[:m.r.Intn(4)] {
		p.handlers = append(p.handlers, "on "+words[i])
		p.blocks = append(p.blocks, m.block(2))
	}
	return p
}

// names returns the variables of a program in the order of their numbers.
func (p program) names() []string { return slices.Concat(p.durable, p.volatile) }

// source returns the source of a program.
func (p program) source() string {
	source := ""
	if len(p.durable) > 0 {
		source += "durable " + strings.Join(p.durable, ",") + ";"
	}
	if len(p.volatile) > 0 {
		source += "volatile " + strings.Join(p.volatile, ",") + ";"
	}
	for i, words := range p.handlers {
		source += words + p.blocks[i]
	}
	return source
}

// contains reports whether a name occurs in a handler.
func (p program) contains(name string) bool {
	return strings.Contains(strings.Join(p.blocks, " "), name)
}

// each calls a function with random programs and what Check returns for them, and fails the test if one of the results is rare.
func each(t *testing.T, seed int64, count int, f func(m *maker, p program, e api.Errno)) {
	t.Helper()
	m := &maker{r: rand.New(rand.NewSource(seed)), wrong: 40}
	found := map[api.Errno]int{}
	for found[api.OK]+found[api.ErrType] < count {
		p := m.program()
		source := p.source()
		if len(source) > api.MaxSource {
			continue
		}
		e := Check(parsed(t, source))
		found[e]++
		f(m, p, e)
	}
	if found[api.OK] < count/4 || found[api.ErrType] < count/4 {
		t.Errorf("the results are too rare: %v", found)
	}
}

// P7.2: random programs.
func TestRandomPrograms(t *testing.T) {
	d := newDefinition()
	each(t, 1, 5000, func(_ *maker, p program, e api.Errno) {
		wrong := slices.ContainsFunc(p.blocks, func(block string) bool { return !d.accepts(block, p.names()) })
		if want := errorIf(wrong); e != want {
			t.Errorf("the error of %q is %v, want %v", p.source(), e, want)
		}
	})
}

// P7.1: random expressions.
func TestRandomExpressions(t *testing.T) {
	d := newDefinition()
	m := &maker{r: rand.New(rand.NewSource(2)), wrong: 20}
	found := map[Type]int{}
	for range 10000 {
		source := m.expr(Int+Type(m.r.Intn(2)), m.r.Intn(6))
		found[d.typeOf(source)]++
		checkType(t, source, d.typeOf(source))
	}
	if found[Int] < 1000 || found[Bool] < 1000 || found[Invalid] < 1000 {
		t.Errorf("the types are too rare: %v", found)
	}
}

// P7.4: a subexpression may be replaced by any other one of the same type.
func TestSubstitution(t *testing.T) {
	m := &maker{r: rand.New(rand.NewSource(3)), wrong: 20}
	byType := map[Type][]string{}
	for range 2000 {
		source := m.expr(Int+Type(m.r.Intn(2)), m.r.Intn(4))
		of := TypeOf(expr(t, source))
		byType[of] = append(byType[of], source)
	}
	compared := map[[2]Type]int{}
	for range 10000 {
		around := m.expr(Int+Type(m.r.Intn(2)), 1+m.r.Intn(3))
		places := strings.Split(around, "n1")
		if len(places) < 2 {
			continue
		}
		i := 1 + m.r.Intn(len(places)-1)
		whole := func(inner string) Type {
			return TypeOf(expr(t, strings.Join(places[:i], "n1")+inner+strings.Join(places[i:], "n1")))
		}
		for _, of := range []Type{Invalid, Int, Bool} {
			l := byType[of]
			x, y := l[m.r.Intn(len(l))], l[m.r.Intn(len(l))]
			before, after := whole(x), whole(y)
			compared[[2]Type{of, before}]++
			if before != after {
				t.Fatalf("in %q, the types differ for %q and %q: %d and %d", around, x, y, before, after)
			}
		}
	}
	for _, key := range [][2]Type{{Int, Int}, {Int, Bool}, {Int, Invalid}, {Bool, Invalid}, {Invalid, Invalid}} {
		if compared[key] < 100 {
			t.Errorf("types were compared too rarely: %v", compared)
		}
	}
}

// P7.4: an operand of type Bool may be replaced in expressions of type Bool.
func TestSubstitutionOfConditions(t *testing.T) {
	m := &maker{r: rand.New(rand.NewSource(4)), wrong: 1000}
	for range 1000 {
		x, y := m.expr(Bool, 3), m.expr(Bool, 3)
		if TypeOf(expr(t, x)) != TypeOf(expr(t, y)) {
			continue
		}
		for _, around := range []string{"!@", "!!@", "@&&true", "false||@", "1<2&&@||!@", "-@", "@+1", "@==@", "draw(@)"} {
			checkType(t, strings.ReplaceAll(around, "@", x), TypeOf(expr(t, strings.ReplaceAll(around, "@", y))))
		}
	}
}

// P7.5: a program is right if and only if each of its handlers is.
func TestModularity(t *testing.T) {
	each(t, 5, 2000, func(_ *maker, p program, e api.Errno) {
		alone := api.OK
		for i := range p.handlers {
			one := program{p.durable, p.volatile, p.handlers[i : i+1], p.blocks[i : i+1]}
			alone = max(alone, Check(parsed(t, one.source())))
		}
		if e != alone {
			t.Errorf("the error of %q is %v, that of its handlers %v", p.source(), e, alone)
		}
	})
}

// P7.6: other names change nothing.
func TestRenaming(t *testing.T) {
	each(t, 6, 2000, func(m *maker, p program, e api.Errno) {
		fresh := strings.Fields("n0 n1 n2 n3 n4 x a1 onx selfs draws zzzzzzzzzz i b2 keys")
		m.r.Shuffle(len(fresh), func(i, k int) { fresh[i], fresh[k] = fresh[k], fresh[i] })
		var pairs []string
		for i, name := range strings.Fields(allNames) {
			pairs = append(pairs, name, fresh[i])
		}
		rename := strings.NewReplacer(pairs...)
		source := rename.Replace(p.source())
		if len(source) > api.MaxSource {
			return
		}
		checkCheck(t, source, e)
		old, u := parsed(t, p.source()), parsed(t, source)
		for name := range strings.FieldsSeq(allNames) {
			if got, want := Index(u, rename.Replace(name)), Index(old, name); got != want {
				t.Errorf("the number of %s in %q is %d after renaming, want %d", name, p.source(), got, want)
			}
		}
	})
}

// P7.6: durable and volatile variables are alike.
func TestExchangedVariables(t *testing.T) {
	each(t, 7, 2000, func(_ *maker, p program, e api.Errno) {
		p.durable, p.volatile = p.volatile, p.durable
		checkCheck(t, p.source(), e)
	})
}

// P7.7: more variables make nothing ill-typed.
func TestMoreVariables(t *testing.T) {
	each(t, 8, 2000, func(m *maker, p program, e api.Errno) {
		if e != api.OK {
			return
		}
		for name := range strings.FieldsSeq("x n00 n0 n1 n2 n3 n4 keys") {
			if slices.Contains(p.names(), name) || m.r.Intn(2) == 0 {
				continue
			}
			names := &p.durable
			if m.r.Intn(2) == 0 {
				names = &p.volatile
			}
			*names = slices.Insert(*names, m.r.Intn(len(*names)+1), name)
			checkCheck(t, p.source(), api.OK)
		}
	})
}

// P7.7: a variable that occurs must be declared, and one that does not need not be.
func TestMissingVariables(t *testing.T) {
	each(t, 9, 2000, func(_ *maker, p program, e api.Errno) {
		for _, name := range p.names() {
			other := func(n string) bool { return n != name }
			less := program{keep(p.durable, other), keep(p.volatile, other), p.handlers, p.blocks}
			want := e
			if p.contains(name) {
				want = api.ErrType
			}
			checkCheck(t, less.source(), want)
		}
	})
}

// keep returns the names for which a condition holds.
func keep(names []string, holds func(name string) bool) []string {
	return slices.DeleteFunc(slices.Clone(names), func(name string) bool { return !holds(name) })
}

// P7.8: the canonical source of a program has the same error.
func TestPrintedPrograms(t *testing.T) {
	each(t, 10, 3000, func(_ *maker, p program, e api.Errno) {
		checkCheck(t, parser.Print(parsed(t, p.source())), e)
	})
}
