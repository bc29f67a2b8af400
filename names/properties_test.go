package names

import (
	"math"
	"math/rand"
	"slices"
	"testing"

	"simproof/api"
)

// lists returns all lists of some numbers with a length.
func lists(length int, numbers ...int) [][]int {
	all := [][]int{nil}
	for range length {
		var longer [][]int
		for _, l := range all {
			for _, n := range numbers {
				longer = append(longer, append(slices.Clone(l), n))
			}
		}
		all = longer
	}
	return all
}

// checkOrder compares an order of values with that of the lists of their numbers.
func checkOrder[T any](t *testing.T, compare func(a, b T) int, values []T, list func(T) []int) {
	t.Helper()
	numbers := make([][]int, len(values))
	for i, v := range values {
		numbers[i] = list(v)
	}
	for i, a := range values {
		for k, b := range values {
			if got, want := compare(a, b), slices.Compare(numbers[i], numbers[k]); got != want {
				t.Fatalf("%+v and %+v: %d, want %d", a, b, got, want)
			}
		}
	}
}

// each returns the values of lists.
func each[T any](all [][]int, value func([]int) T) []T {
	values := make([]T, len(all))
	for i, l := range all {
		values[i] = value(l)
	}
	return values
}

// P10.1, P10.4: all messages, events and questions of a few numbers.
func TestOrders(t *testing.T) {
	checkOrder(t, CompareMsg, each(lists(5, math.MinInt, 0, math.MaxInt), msgOf), msgList)
	checkOrder(t, CompareMsg, each(lists(5, -1, 1, 2), msgOf), msgList)
	checkOrder(t, CompareEvent, each(lists(8, -1, 1), eventOf), eventList)
	checkOrder(t, CompareEvent, each(lists(8, math.MinInt, math.MaxInt), eventOf), eventList)
	checkOrder(t, CompareQuestion, each(lists(5, math.MinInt, 0, math.MaxInt), questionOf), questionList)
	checkOrder(t, CompareQuestion, each(lists(5, -1, 1, 2), questionOf), questionList)
}

// P10.1, P10.4: all steps with two events and at most two of a few questions, and with anything in the fields that are not compared.
func TestOrderOfSteps(t *testing.T) {
	r := rand.New(rand.NewSource(1))
	var steps []api.Step
	for _, node := range []int{0, 1} {
		for length := range 3 {
			for _, l := range lists(length, 0, 1, 2, 3, 4, 5, 6, 7, 8, 9, 10, 11) {
				s := api.Step{Event: api.Event{Node: node}, Observable: r.Intn(2) == 0, Sent: make([]api.Msg, r.Intn(3))}
				for _, n := range l {
					s.Asks = append(s.Asks, api.Ask{Q: question(n%2, 0, 0, n/2%2, 0), Arity: r.Intn(5), N: n/4 - 1})
				}
				steps = append(steps, s)
			}
		}
	}
	checkOrder(t, CompareStep, steps, stepList)
}

// pool holds the numbers with which the definitions of the chapter begin to hold, or cease to.
func pool() []int {
	return []int{math.MinInt, -2147483648, -1, 0, 1, 2, 3, 4, 7, 8, 9, 10, 11, 12, 38, 39, 40, 41, 99, 100, 2147483646, 2147483647, 2147483648, 4294967296, math.MaxInt}
}

// someOf returns a random element.
func someOf[T any](r *rand.Rand, l []T) T { return l[r.Intn(len(l))] }

// P10.1, P10.4: random events, most of which have many numbers in common.
func TestRandomOrders(t *testing.T) {
	r := rand.New(rand.NewSource(2))
	for range 300 {
		base := make([]int, 8)
		for i := range base {
			base[i] = someOf(r, pool())
		}
		var events []api.Event
		for range 15 {
			l := slices.Clone(base)
			for range r.Intn(3) {
				l[r.Intn(len(l))] = someOf(r, pool())
			}
			events = append(events, eventOf(l))
		}
		checkOrder(t, CompareEvent, events, eventList)
		checkTotal(t, CompareEvent, events)
	}
}

// checkTotal checks the properties of total orders.
func checkTotal[T comparable](t *testing.T, compare func(a, b T) int, values []T) {
	t.Helper()
	for _, a := range values {
		for _, b := range values {
			if compare(a, b) != -compare(b, a) || (compare(a, b) == 0) != (a == b) {
				t.Fatalf("%+v and %+v: %d, and %d the other way round", a, b, compare(a, b), compare(b, a))
			}
			for _, c := range values {
				if compare(a, b) <= 0 && compare(b, c) <= 0 && compare(a, c) > 0 {
					t.Fatalf("%+v, %+v and %+v are not in a transitive order", a, b, c)
				}
			}
		}
	}
}

// P10.4: all messages and questions of two numbers.
func TestTotalOrders(t *testing.T) {
	checkTotal(t, CompareMsg, each(lists(5, -1, 1), msgOf))
	checkTotal(t, CompareQuestion, each(lists(5, -1, 1), questionOf))
}

// P10.2: every number of an event at every edge, for all kinds.
func TestTextsOfEvents(t *testing.T) {
	texts := 0
	for kind := -1; kind <= 9; kind++ {
		for _, base := range [][]int{{kind, 0, 0, 0, 0, 0, 0, 0}, {kind, 5, 6, 0, 0, 0, 0, 0}, {kind, 11, 0, 11, 39, 8, 9, 10}, {kind, 3, 1, 4, 1, 5, 9, 2}} {
			for field := 1; field < len(base); field++ {
				for _, n := range pool() {
					l := slices.Clone(base)
					l[field] = n
					if checkEvent(t, eventOf(l)) {
						texts++
					}
				}
			}
		}
	}
	if texts < 500 {
		t.Errorf("only %d events have a text", texts)
	}
}

// P10.3: every two numbers of a question at every edge, for all kinds.
func TestTextsOfQuestions(t *testing.T) {
	texts := 0
	for kind := -1; kind <= 5; kind++ {
		base := []int{1, 2, 3, kind, 4}
		for _, one := range []int{0, 1, 2, 4} {
			for _, two := range []int{0, 1, 2, 4} {
				for _, n := range pool() {
					for _, m := range pool() {
						l := slices.Clone(base)
						l[one], l[two] = n, m
						if checkQuestion(t, questionOf(l)) {
							texts++
						}
					}
				}
			}
		}
	}
	if texts < 500 {
		t.Errorf("only %d questions have a text", texts)
	}
}

// someNumber returns a random number up to a greatest one, often one of its edges.
func someNumber(r *rand.Rand, most int) int {
	switch r.Intn(4) {
	case 0:
		return 0
	case 1:
		return most
	case 2:
		return r.Intn(min(most, 12) + 1)
	}
	return r.Intn(most + 1)
}

// someEvent returns a random well-formed event.
func someEvent(r *rand.Rand) api.Event {
	e := api.Event{Kind: 1 + r.Intn(7), Node: someNumber(r, 11)}
	switch e.Kind {
	case api.EvStart, api.EvInvoke, api.EvTimer:
		e.Arg = someNumber(r, 2147483647)
	case api.EvDeliver, api.EvDrop, api.EvDup:
		e.Msg = msg(someNumber(r, 11), someNumber(r, 39), someNumber(r, 2147483647), someNumber(r, 2147483647), someNumber(r, 2147483647))
	}
	return e
}

// someQuestion returns a random well-formed question.
func someQuestion(r *rand.Rand) api.Question {
	return question(someNumber(r, 11), someNumber(r, 40), someNumber(r, 2147483647), 1+r.Intn(3), someNumber(r, 2147483647))
}

// P10.2, P10.3, P10.5, P10.6: random well-formed events and questions have texts of their own, from which they are parsed.
func TestRoundTrips(t *testing.T) {
	r := rand.New(rand.NewSource(3))
	events, questions := map[string]api.Event{}, map[string]api.Question{}
	for range 30000 {
		e, q := someEvent(r), someQuestion(r)
		s, text := Event(e), Question(q)
		if back, err := ParseEvent(s); s == "" || back != e || err != api.OK {
			t.Fatalf("%+v has the text %q, which is %+v, %v", e, s, back, err)
		}
		if back, err := ParseQuestion(text); text == "" || back != q || err != api.OK {
			t.Fatalf("%+v has the text %q, which is %+v, %v", q, text, back, err)
		}
		if other, ok := events[s]; ok && other != e {
			t.Fatalf("%+v and %+v have the same text", e, other)
		}
		if other, ok := questions[text]; ok && other != q {
			t.Fatalf("%+v and %+v have the same text", q, other)
		}
		events[s], questions[text] = e, q
		checkEvent(t, e)
		checkQuestion(t, q)
		checkParse(t, s)
		checkParse(t, text)
	}
	for s := range events {
		if _, ok := questions[s]; ok {
			t.Errorf("%q is the text of an event and of a question", s)
		}
		if q, err := ParseQuestion(s); q != (api.Question{}) || err != api.ErrForm {
			t.Errorf("the text %q of an event is the question %+v, %v", s, q, err)
		}
	}
	for s := range questions {
		if e, err := ParseEvent(s); e != (api.Event{}) || err != api.ErrForm {
			t.Errorf("the text %q of a question is the event %+v, %v", s, e, err)
		}
	}
}

// checkCanonical compares what a string is parsed to with the definitions, and checks that the result has this text. It reports whether there is one.
func checkCanonical(t *testing.T, s string) bool {
	t.Helper()
	if e, err := ParseEvent(s); err == api.OK && Event(e) != s {
		t.Fatalf("the event %q has the text %q", s, Event(e))
	}
	if q, err := ParseQuestion(s); err == api.OK && Question(q) != s {
		t.Fatalf("the question %q has the text %q", s, Question(q))
	}
	return checkParse(t, s)
}

// P10.2, P10.3, P10.5: all strings of a first word and at most six bytes that each stand for others.
func TestAllShortStrings(t *testing.T) {
	texts := 0
	var extend func(s string, left int)
	extend = func(s string, left int) {
		if checkCanonical(t, s) {
			texts++
		}
		if left > 0 {
			for _, b := range " .012-" {
				extend(s+string(b), left-1)
			}
		}
	}
	for _, word := range []string{"", "start", "invoke", "deliver", "timer", "drop", "dup", "crash", "draw", "tick", "keep", "stop"} {
		extend(word, 5)
	}
	for _, start := range []string{"drop 1 2.3", "dup 1.1", "keep 1.2", "tick 1.3", "draw 3"} {
		extend(start, 6)
	}
	if texts < 500 {
		t.Errorf("only %d strings are texts", texts)
	}
}

// edit returns a string with one random change.
func edit(r *rand.Rand, s string) string {
	at := r.Intn(len(s) + 1)
	part := someOf(r, []string{" ", ".", "0", "1", "9", "-", "+", "x", "_", "\n", "\x00", "\xff", "é", "00", "2147483647", "start ", "draw "})
	end := min(len(s), at+r.Intn(3))
	if r.Intn(3) == 0 {
		part = ""
	}
	return s[:at] + part + s[end:]
}

// P10.2, P10.3, P10.5: texts with a few changes.
func TestEditedTexts(t *testing.T) {
	r := rand.New(rand.NewSource(4))
	texts := 0
	for range 60000 {
		s := someOf(r, []string{Event(someEvent(r)), Question(someQuestion(r))})
		for range 1 + r.Intn(3) {
			s = edit(r, s)
		}
		if checkCanonical(t, s) {
			texts++
		}
	}
	if texts < 2000 || texts > 58000 {
		t.Errorf("%d strings are texts", texts)
	}
}
