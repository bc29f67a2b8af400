package parser

import (
	"slices"
	"strings"

	"simproof/api"
	"simproof/lexer"
)

// chapterGrammar is the grammar of the chapter, with builtin instead of built-in name.
const chapterGrammar = `
program     = { declaration } { handler }
declaration = ( "durable" | "volatile" ) name { "," name } ";"
handler     = "on" ( "start" | "request" | "timer" number | "message" number ) block
block       = "{" { statement } "}"
statement   = name "=" expr ";" | "if" expr block [ "else" block ] | "while" expr block | "send" expr "," number "," expr "," expr ";" | "timer" number ";" | "cancel" number ";" | "sync" ";" | "stop" ";" | "reply" expr "," expr ";" | "fail" expr ";"
expr        = and { "||" and }
and         = not { "&&" not }
not         = "!" not | comparison
comparison  = sum [ ( "<" | "<=" | ">" | ">=" | "==" | "!=" ) sum ]
sum         = product { ( "+" | "-" ) product }
product     = unary { ( "*" | "/" ) unary }
unary       = "-" unary | primary
primary     = number | "true" | "false" | builtin | name | "draw" "(" expr ")" | "(" expr ")"
`

// The reserved words of the chapter.
const (
	builtInWords  = "self nodes now from a b id op key"
	reservedWords = "durable volatile on start request timer message if else while send cancel sync reply fail stop true false draw " + builtInWords
)

// part is a part of a rule of the grammar.
type part struct {
	kind  int // one of the following
	text  string
	parts []*part
}

// Kinds of parts: a quoted token or a class of tokens, a rule, parts in a row, alternatives, and a part that may be left out or that may be repeated.
const (
	isToken = iota
	isRule
	isRow
	isChoice
	isOption
	isLoop
)

// readGrammar returns the rules of a grammar by their names.
func readGrammar(text string) map[string]*part {
	rules := map[string]*part{}
	for line := range strings.Lines(strings.TrimSpace(text)) {
		words := strings.Fields(line)
		rest := words[2:]
		rules[words[0]] = readChoice(&rest)
	}
	return rules
}

// readChoice reads alternatives up to a closing brace, bracket or parenthesis.
func readChoice(words *[]string) *part {
	choice := &part{kind: isChoice, parts: []*part{{kind: isRow}}}
	for len(*words) > 0 {
		word := (*words)[0]
		*words = (*words)[1:]
		row := choice.parts[len(choice.parts)-1]
		switch word {
		case "|":
			choice.parts = append(choice.parts, &part{kind: isRow})
		case "(":
			row.parts = append(row.parts, readChoice(words))
		case "[":
			row.parts = append(row.parts, &part{kind: isOption, parts: []*part{readChoice(words)}})
		case "{":
			row.parts = append(row.parts, &part{kind: isLoop, parts: []*part{readChoice(words)}})
		case ")", "]", "}":
			return choice
		case "number", "name", "builtin":
			row.parts = append(row.parts, &part{kind: isToken, text: word})
		default:
			if strings.HasPrefix(word, `"`) {
				row.parts = append(row.parts, &part{kind: isToken, text: strings.Trim(word, `"`)})
			} else {
				row.parts = append(row.parts, &part{kind: isRule, text: word})
			}
		}
	}
	return choice
}

// stack holds the parts that have to follow, the next one first; nil if nothing has to.
type stack struct {
	top  *part
	rest *stack
}

// recognizer knows all ways in which the tokens so far can be continued.
type recognizer struct {
	rules  map[string]*part
	stacks []*stack // with tokens at their tops, or nil
}

// newRecognizer returns a recognizer of programs before their first token.
func newRecognizer() recognizer {
	r := recognizer{rules: readGrammar(chapterGrammar)}
	r.stacks = r.open(&stack{&part{kind: isRule, text: "program"}, nil}, nil)
	return r
}

// open appends the stacks with tokens at their tops to which a stack leads.
func (r recognizer) open(s *stack, to []*stack) []*stack {
	if s == nil || s.top.kind == isToken {
		return append(to, s)
	}
	switch s.top.kind {
	case isRule:
		return r.open(&stack{r.rules[s.top.text], s.rest}, to)
	case isRow:
		for i := len(s.top.parts) - 1; i >= 0; i-- {
			s.rest = &stack{s.top.parts[i], s.rest}
		}
		return r.open(s.rest, to)
	case isChoice:
		for _, p := range s.top.parts {
			to = r.open(&stack{p, s.rest}, to)
		}
		return to
	case isOption:
		return r.open(s.rest, r.open(&stack{s.top.parts[0], s.rest}, to))
	}
	return r.open(s.rest, r.open(&stack{s.top.parts[0], s}, to))
}

// isAmong reports whether a word is one of several.
func isAmong(word, words string) bool { return strings.Contains(" "+words+" ", " "+word+" ") }

// class returns the class of a token if it has one, else its text.
func class(text string) string {
	switch first := text[0]; {
	case '0' <= first && first <= '9':
		return "number"
	case 'a' > first || first > 'z':
		return text
	case isAmong(text, builtInWords):
		return "builtin"
	case !isAmong(text, reservedWords):
		return "name"
	}
	return text
}

// after returns the recognizer after one more token. It has no stacks if the token cannot follow.
func (r recognizer) after(text string) recognizer {
	next, class := recognizer{rules: r.rules}, class(text)
	for _, s := range r.stacks {
		if s != nil && s.top.text == class {
			next.stacks = r.open(s.rest, next.stacks)
		}
	}
	return next
}

// canEnd reports whether the tokens so far are a program.
func (r recognizer) canEnd() bool { return slices.Contains(r.stacks, nil) }

// watcher looks at the tokens of a program from left to right for the errors that the grammar does not tell.
type watcher struct {
	tokens  []lexer.Token
	names   []string        // that were declared
	seen    map[string]bool // the handlers, by their words without white space and zeros
	inside  bool            // a handler occurred
	blocks  int             // that are open
	opened  []string        // the (, ! and unary - that are open in the expression
	commas  int             // in the statement
	keyword string          // the first word of the statement
}

// definedError returns the error of a source by the definitions of the chapter.
func definedError(r recognizer, source string) (int, api.Errno) {
	if len(source) > api.MaxSource {
		return api.MaxSource, api.ErrLimit
	}
	tokens, at, e := lexer.Tokens(source)
	if e != api.OK {
		return at, e
	}
	w := watcher{tokens: tokens, seen: map[string]bool{}}
	for i, t := range tokens[:len(tokens)-1] {
		if r = r.after(t.Text); r.stacks == nil {
			return t.At, api.ErrSyntax
		}
		if e := w.look(i); e != api.OK {
			return t.At, e
		}
	}
	if !r.canEnd() {
		return len(source), api.ErrSyntax
	}
	return 0, api.OK
}

// look returns the error at a token that can follow those before it.
func (w *watcher) look(i int) api.Errno {
	text, before := w.tokens[i].Text, "{"
	if i > 0 {
		before = w.tokens[i-1].Text
	}
	if text == "on" {
		w.inside = true
	}
	if !w.inside {
		return w.lookAtName(text)
	}
	if before == "on" {
		return w.lookAtHandler(i)
	}
	if before == ";" || before == "{" || before == "}" {
		w.keyword, w.commas = text, 0
	}
	if text == "," {
		w.commas++
	}
	if limit := w.limit(before); class(text) == "number" && w.tokens[i].N >= limit {
		return api.ErrRange
	}
	return w.lookAtLevel(text, before)
}

// lookAtName returns the error at a token of a declaration.
func (w *watcher) lookAtName(text string) api.Errno {
	switch {
	case class(text) != "name":
		return api.OK
	case slices.Contains(w.names, text):
		return api.ErrDup
	case len(w.names) == 16:
		return api.ErrLimit
	}
	w.names = append(w.names, text)
	return api.OK
}

// lookAtHandler returns the error at the first token after on.
func (w *watcher) lookAtHandler(i int) api.Errno {
	words := w.tokens[i].Text
	if words == "timer" || words == "message" {
		number := w.tokens[i+1]
		if number.Kind != lexer.Number || number.N >= map[string]int{"timer": 8, "message": 30}[words] {
			return api.OK
		}
		words += strings.TrimLeft(number.Text[:len(number.Text)-1], "0") + number.Text[len(number.Text)-1:]
	}
	if w.seen[words] {
		return api.ErrDup
	}
	w.seen[words] = true
	return api.OK
}

// limit returns what a number after a token must be less than.
func (w *watcher) limit(before string) int {
	switch {
	case before == "timer" || before == "cancel":
		return 8
	case before == "message":
		return 30
	case before == "," && w.keyword == "send" && w.commas == 1:
		return 30
	}
	return api.MaxValue + 1
}

// lookAtLevel returns the error at a token that may open or close levels.
func (w *watcher) lookAtLevel(text, before string) api.Errno {
	operand := before == ")" || class(before) != before || before == "true" || before == "false"
	switch {
	case text == "{" || text == "}" || text == ";" || text == "," || text == "&&" || text == "||" || text == ")":
		w.close("-!")
	case operand && strings.Contains("< <= > >= == != + - * /", text):
		w.close("-")
	}
	switch {
	case text == ")":
		w.opened = w.opened[:len(w.opened)-1]
	case text == "}":
		w.blocks--
	case text == "{":
		w.blocks++
		return w.tooDeep()
	case text == "(" || text == "!" || text == "-" && !operand:
		w.opened = append(w.opened, text)
		return w.tooDeep()
	}
	return api.OK
}

// close removes the operators whose operands have ended.
func (w *watcher) close(operators string) {
	for n := len(w.opened); n > 0 && strings.Contains(operators, w.opened[n-1]); n-- {
		w.opened = w.opened[:n-1]
	}
}

// tooDeep returns the error if there are more than 20 levels.
func (w *watcher) tooDeep() api.Errno {
	if w.blocks+len(w.opened) > 20 {
		return api.ErrLimit
	}
	return api.OK
}

// definedExpr returns the tree of an expression, by splitting its tokens at the operator that binds least.
func definedExpr(tokens []string) api.Node {
	for _, operators := range []string{"||", "&&"} {
		if i := lastOutside(tokens, operators); i >= 0 {
			return pair(definedExpr(tokens[:i]), tokens[i], definedExpr(tokens[i+1:]))
		}
	}
	if tokens[0] == "!" {
		return unary("!", definedExpr(tokens[1:]))
	}
	for _, operators := range []string{"< <= > >= == !=", "+ -", "* /"} {
		if i := lastOutside(tokens, operators); i >= 0 {
			return pair(definedExpr(tokens[:i]), tokens[i], definedExpr(tokens[i+1:]))
		}
	}
	switch first := tokens[0]; {
	case first == "-":
		return unary("-", definedExpr(tokens[1:]))
	case first == "(":
		return definedExpr(tokens[1 : len(tokens)-1])
	case first == "draw":
		return draw(definedExpr(tokens[2 : len(tokens)-1]))
	case first == "true":
		return truth(1)
	case first == "false":
		return truth(0)
	case class(first) == "number":
		n := 0
		for _, digit := range first {
			n = 10*n + int(digit-'0')
		}
		return number(n)
	case class(first) == "builtin":
		return builtIn(first)
	default:
		return variable(first)
	}
}

// lastOutside returns the index of the last binary operator of a list that stands outside parentheses, or -1 if there is none.
func lastOutside(tokens []string, operators string) int {
	depth := 0
	for i := len(tokens) - 1; i > 0; i-- {
		before := tokens[i-1]
		operand := before == ")" || class(before) != before || before == "true" || before == "false"
		switch {
		case tokens[i] == ")":
			depth++
		case tokens[i] == "(":
			depth--
		case depth == 0 && operand && isAmong(tokens[i], operators):
			return i
		}
	}
	return -1
}
