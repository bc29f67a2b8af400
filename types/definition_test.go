package types

import (
	"slices"
	"strings"
	"testing"

	"simproof/api"
	"simproof/lexer"
	"simproof/parser"
)

// Classes of operators, by the table of the chapter.
const (
	arithmetic  = "+ - * /"
	comparisons = "< <= > >= == !="
	connectives = "&& ||"
	builtIns    = "self nodes now from a b id op key"
)

// chapterRules returns pairs of texts, of which the first may be replaced by the second: well-typed expressions by I or B, and well-typed statements by nothing. V is a variable to which a value is assigned.
func chapterRules() []string {
	rules := []string{
		"V=I;", "", "(I)", "I", "(B)", "B",
		"draw(I)", "I", "(-I)", "I", "(!B)", "B",
		"sendI,I,I,I;", "", "replyI,I;", "", "failI;", "",
		"ifB{}", "", "else{}", "", "whileB{}", "",
		"timerI;", "", "cancelI;", "", "sync;", "", "stop;", "",
	}
	for operator := range strings.FieldsSeq(arithmetic) {
		rules = append(rules, "(I"+operator+"I)", "I")
	}
	for operator := range strings.FieldsSeq(comparisons) {
		rules = append(rules, "(I"+operator+"I)", "B")
	}
	for operator := range strings.FieldsSeq(connectives) {
		rules = append(rules, "(B"+operator+"B)", "B")
	}
	return rules
}

// definition tells the types of sources in which every operator with its operands stands in parentheses.
type definition struct{ step *strings.Replacer }

func newDefinition() definition { return definition{strings.NewReplacer(chapterRules()...)} }

// reduce returns what is left of a source in which all names are variables except the undeclared ones.
func (d definition) reduce(source string, isVariable func(name string) bool) string {
	tokens, _, _ := lexer.Tokens(source)
	var marks strings.Builder
	for i, token := range tokens[:len(tokens)-1] {
		marks.WriteString(mark(token, tokens[i+1].Text == "=", isVariable))
	}
	text := marks.String()
	for {
		next := d.step.Replace(text)
		if next == text {
			return text
		}
		text = next
	}
}

// mark returns I and B for the literals of these types, V for a variable to which a value is assigned, ? for an undeclared name, and the other tokens as they are.
func mark(token lexer.Token, assigned bool, isVariable func(name string) bool) string {
	const keywords = "draw if else while send timer cancel sync reply fail stop"
	is := func(words string) bool { return slices.Contains(strings.Fields(words), token.Text) }
	switch {
	case token.Kind == lexer.Number, is(builtIns):
		return "I"
	case is("true false"):
		return "B"
	case token.Kind != lexer.Word, is(keywords):
		return token.Text
	case !isVariable(token.Text):
		return "?"
	case assigned:
		return "V"
	}
	return "I"
}

// typeOf returns the type of an expression or statement.
func (d definition) typeOf(source string) Type {
	switch d.reduce(source, func(string) bool { return true }) {
	case "I":
		return Int
	case "B":
		return Bool
	}
	return Invalid
}

// accepts reports whether a block is well-typed and contains only these names.
func (d definition) accepts(block string, names []string) bool {
	return d.reduce(block, func(name string) bool { return slices.Contains(names, name) }) == "{}"
}

// parsed returns the tree of a program, which must be one by the grammar.
func parsed(t *testing.T, source string) api.Unit {
	t.Helper()
	u, at, e := parser.Parse(source)
	if e != api.OK {
		t.Fatalf("no program: %q: %d, %v", source, at, e)
	}
	return u
}

// statement returns the tree of a statement.
func statement(t *testing.T, source string) api.Node {
	t.Helper()
	return parsed(t, "on start{"+source+"}").On[0].Body.Kids[0]
}

// expr returns the tree of an expression.
func expr(t *testing.T, source string) api.Node {
	t.Helper()
	return statement(t, "fail "+source+";").Kids[0]
}

// checkType fails the test unless an expression has this type.
func checkType(t *testing.T, source string, want Type) {
	t.Helper()
	if got := TypeOf(expr(t, source)); got != want {
		t.Errorf("the type of %q is %d, want %d", source, got, want)
	}
}

// checkCheck fails the test unless a program has this error.
func checkCheck(t *testing.T, source string, want api.Errno) {
	t.Helper()
	if got := Check(parsed(t, source)); got != want {
		t.Errorf("the error of %q is %v, want %v", source, got, want)
	}
}

// errorIf returns the error of a program that is right or wrong.
func errorIf(wrong bool) api.Errno {
	if wrong {
		return api.ErrType
	}
	return api.OK
}
