package names

import (
	"fmt"
	"regexp"
	"strconv"
	"testing"

	"simproof/api"
)

// The numbers of values, in the order in which the chapter compares them.

func causeList(c api.Cause) []int { return []int{c.Node, c.Handler, c.Count} }

func msgList(m api.Msg) []int { return append(causeList(m.Cause), m.Index, m.Copy) }

func eventList(e api.Event) []int { return append([]int{e.Kind, e.Node, e.Arg}, msgList(e.Msg)...) }

func questionList(q api.Question) []int { return append(causeList(q.Cause), q.Kind, q.Index) }

// stepList puts a 1 before each question and a 0 at the end, so that a proper prefix comes first.
func stepList(s api.Step) []int {
	l := eventList(s.Event)
	for _, a := range s.Asks {
		l = append(l, 1)
		l = append(append(l, questionList(a.Q)...), a.N)
	}
	return append(l, 0)
}

// The values with such numbers.

func msgOf(l []int) api.Msg {
	return api.Msg{Cause: api.Cause{Node: l[0], Handler: l[1], Count: l[2]}, Index: l[3], Copy: l[4]}
}

func eventOf(l []int) api.Event {
	return api.Event{Kind: l[0], Node: l[1], Arg: l[2], Msg: msgOf(l[3:])}
}

func questionOf(l []int) api.Question {
	return api.Question{Cause: api.Cause{Node: l[0], Handler: l[1], Count: l[2]}, Kind: l[3], Index: l[4]}
}

// The texts of the chapter: nodes up to 11, handlers up to 39 or 40, and other numbers without leading zeros, whose range is left to definedNumbers.
const (
	nodeForm    = `([0-9]|1[01])`
	handlerForm = `([0-9]|[12][0-9]|3[0-9])`
	crashForm   = `([0-9]|[12][0-9]|3[0-9]|40)`
	numberForm  = `(0|[1-9][0-9]*)`
	msgForm     = nodeForm + `\.` + handlerForm + `\.` + numberForm + `\.` + numberForm + `\.` + numberForm
)

var (
	argEvent     = regexp.MustCompile(`\A(start|invoke|timer) ` + nodeForm + ` ` + numberForm + `\z`)
	msgEvent     = regexp.MustCompile(`\A(deliver|drop|dup) ` + nodeForm + ` ` + msgForm + `\z`)
	crashEvent   = regexp.MustCompile(`\A(crash) ` + nodeForm + `\z`)
	questionForm = regexp.MustCompile(`\A(draw|tick|keep) ` + nodeForm + `\.` + crashForm + `\.` + numberForm + ` ` + numberForm + `\z`)
	kindWords    = map[string]int{"start": 1, "invoke": 2, "deliver": 3, "timer": 4, "drop": 5, "dup": 6, "crash": 7, "draw": 1, "tick": 2, "keep": 3}
)

// definedNumbers returns the kind and the numbers in a text that a pattern matches, or nothing if it does not match or a number is too great.
func definedNumbers(pattern *regexp.Regexp, s string) []int {
	groups := pattern.FindStringSubmatch(s)
	if groups == nil {
		return nil
	}
	l := []int{kindWords[groups[1]]}
	for _, g := range groups[2:] {
		n, err := strconv.ParseInt(g, 10, 32) // up to 2^31 - 1
		if err != nil {
			return nil
		}
		l = append(l, int(n))
	}
	return l
}

// definedParseEvent returns what follows from the chapter's definitions.
func definedParseEvent(s string) (api.Event, api.Errno) {
	if l := definedNumbers(argEvent, s); l != nil {
		return api.Event{Kind: l[0], Node: l[1], Arg: l[2]}, api.OK
	}
	if l := definedNumbers(msgEvent, s); l != nil {
		return api.Event{Kind: l[0], Node: l[1], Msg: msgOf(l[2:])}, api.OK
	}
	if l := definedNumbers(crashEvent, s); l != nil {
		return api.Event{Kind: l[0], Node: l[1]}, api.OK
	}
	return api.Event{}, api.ErrForm
}

// definedParseQuestion returns what follows from the chapter's definitions.
func definedParseQuestion(s string) (api.Question, api.Errno) {
	if l := definedNumbers(questionForm, s); l != nil {
		return api.Question{Cause: api.Cause{Node: l[1], Handler: l[2], Count: l[3]}, Kind: l[0], Index: l[4]}, api.OK
	}
	return api.Question{}, api.ErrForm
}

// definedEvent returns the text of an event: the one, of all those with its numbers, that stands for exactly this event.
func definedEvent(e api.Event) string {
	m := fmt.Sprintf("%d.%d.%d.%d.%d", e.Msg.Cause.Node, e.Msg.Cause.Handler, e.Msg.Cause.Count, e.Msg.Index, e.Msg.Copy)
	for _, s := range []string{
		fmt.Sprintf("start %d %d", e.Node, e.Arg), fmt.Sprintf("invoke %d %d", e.Node, e.Arg), fmt.Sprintf("timer %d %d", e.Node, e.Arg),
		fmt.Sprintf("deliver %d %s", e.Node, m), fmt.Sprintf("drop %d %s", e.Node, m), fmt.Sprintf("dup %d %s", e.Node, m),
		fmt.Sprintf("crash %d", e.Node),
	} {
		if back, err := definedParseEvent(s); err == api.OK && back == e {
			return s
		}
	}
	return ""
}

// definedQuestion returns the text of a question in the same way.
func definedQuestion(q api.Question) string {
	for _, word := range []string{"draw", "tick", "keep"} {
		s := fmt.Sprintf("%s %d.%d.%d %d", word, q.Cause.Node, q.Cause.Handler, q.Cause.Count, q.Index)
		if back, err := definedParseQuestion(s); err == api.OK && back == q {
			return s
		}
	}
	return ""
}

// checkEvent compares the text of an event with the definitions, and reports whether it has one.
func checkEvent(t *testing.T, e api.Event) bool {
	t.Helper()
	s := Event(e)
	if want := definedEvent(e); s != want {
		t.Fatalf("the text of %+v is %q, want %q", e, s, want)
	}
	return s != ""
}

// checkQuestion compares the text of a question with the definitions, and reports whether it has one.
func checkQuestion(t *testing.T, q api.Question) bool {
	t.Helper()
	s := Question(q)
	if want := definedQuestion(q); s != want {
		t.Fatalf("the text of %+v is %q, want %q", q, s, want)
	}
	return s != ""
}

// checkParse compares what a string is parsed to with the definitions, and reports whether it is a text of an event or a question.
func checkParse(t *testing.T, s string) bool {
	t.Helper()
	e, err := ParseEvent(s)
	if want, wantErr := definedParseEvent(s); e != want || err != wantErr {
		t.Fatalf("the event %.80q is %+v, %v, want %+v, %v", s, e, err, want, wantErr)
	}
	q, qErr := ParseQuestion(s)
	if want, wantErr := definedParseQuestion(s); q != want || qErr != wantErr {
		t.Fatalf("the question %.80q is %+v, %v, want %+v, %v", s, q, qErr, want, wantErr)
	}
	return err == api.OK || qErr == api.OK
}
