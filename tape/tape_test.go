package tape

import (
	"math"
	"slices"
	"testing"

	"simproof/api"
)

// question returns a question.
func question(node, handler, count, kind, index int) api.Question {
	return api.Question{Cause: api.Cause{Node: node, Handler: handler, Count: count}, Kind: kind, Index: index}
}

// draw returns the question for a draw of the first start of node 0.
func draw(index int) api.Question { return question(0, api.OnStart, 0, api.QDraw, index) }

// give returns answers to draws: the pairs hold the index of a draw and its answer.
func give(pairs ...[2]int) []api.Answer {
	var l []api.Answer
	for _, p := range pairs {
		l = append(l, api.Answer{Q: draw(p[0]), N: p[1]})
	}
	return l
}

// starts returns a start of each node up to n - 1.
func starts(n int) []api.Event {
	l := make([]api.Event, n)
	for i := range l {
		l[i] = api.Event{Kind: api.EvStart, Node: i}
	}
	return l
}

// P11.1: the last answer to a question counts, and what is not positive is left out.
func TestNormal(t *testing.T) {
	for _, c := range []struct{ answers, want []api.Answer }{
		{nil, nil},
		{give(), nil},
		{give([2]int{0, 2}, [2]int{0, 0}), nil}, // the chapter's example
		{give([2]int{0, 0}, [2]int{0, 2}), give([2]int{0, 2})},
		{give([2]int{0, 2}, [2]int{0, -1}), nil},
		{give([2]int{0, -1}, [2]int{0, 1}), give([2]int{0, 1})},
		{give([2]int{0, 3}, [2]int{0, 1}), give([2]int{0, 1})},
		{give([2]int{0, 1}, [2]int{0, 3}), give([2]int{0, 3})},
		{give([2]int{0, 1}, [2]int{0, 0}, [2]int{0, 4}), give([2]int{0, 4})},
		{give([2]int{0, 0}), nil},
		{give([2]int{0, -1}), nil},
		{give([2]int{0, math.MinInt}), nil},
		{give([2]int{0, math.MaxInt}), give([2]int{0, math.MaxInt})},
		{give([2]int{2, 1}, [2]int{1, 1}, [2]int{0, 1}), give([2]int{0, 1}, [2]int{1, 1}, [2]int{2, 1})},
		{give([2]int{1, 5}, [2]int{0, 7}, [2]int{1, 6}), give([2]int{0, 7}, [2]int{1, 6})},
		{give([2]int{1, 5}, [2]int{0, 7}, [2]int{1, 0}, [2]int{-1, 1}), give([2]int{-1, 1}, [2]int{0, 7})},
	} {
		for events := range 3 {
			got := Normal(api.Tape{Events: starts(events), Answers: c.answers})
			if !slices.Equal(got.Events, starts(events)) || !slices.Equal(got.Answers, c.want) {
				t.Errorf("the normal form of %d events with %v is %v", events, c.answers, got)
			}
		}
	}
}

// P11.1: events stay as they are, with repetitions and whatever they contain.
func TestNormalKeepsEvents(t *testing.T) {
	events := []api.Event{{Kind: api.EvCrash, Node: 1}, {}, {Kind: -1, Node: 99, Arg: math.MinInt, Msg: api.Msg{Copy: 5}}, {Kind: api.EvCrash, Node: 1}, {Kind: api.EvStart}}
	if got := Normal(api.Tape{Events: events}); !slices.Equal(got.Events, events) || len(got.Answers) > 0 {
		t.Errorf("the normal form is %v", got)
	}
}

// row returns questions in increasing order, in which each number decides somewhere.
func row() []api.Question {
	return []api.Question{
		question(math.MinInt, 9, 9, 9, 9), question(-1, 9, 9, 9, 9),
		{}, question(0, 0, 0, 0, 1), question(0, 0, 0, api.QDraw, 0), question(0, 0, 0, api.QDraw, 7), question(0, 0, 0, api.QTick, 0), question(0, 0, 0, api.QKeep, 0),
		question(0, 0, 1, 0, 0), question(0, 0, 10, 0, 0), question(0, 1, 0, 0, 0), question(0, 40, 0, 0, 0), question(1, -1, 0, 0, 0), question(1, 0, 0, 0, 0),
		question(10, 0, 0, 0, 0), question(math.MaxInt, 0, 0, 0, math.MinInt), question(math.MaxInt, 0, 0, 0, math.MaxInt),
	}
}

// P11.1, P11.2, P11.5: answers are in the order of their questions, wherever they come from.
func TestOrderOfAnswers(t *testing.T) {
	var want []api.Answer
	for i, q := range row() {
		want = append(want, api.Answer{Q: q, N: i + 1})
	}
	var reversed, rest api.Tape
	reversed.Answers = slices.Clone(want)
	slices.Reverse(reversed.Answers)
	for i, a := range want {
		if i != 4 {
			rest.Answers = slices.Insert(rest.Answers, i/2, a)
		}
	}
	if got := Normal(reversed); !slices.Equal(got.Answers, want) {
		t.Errorf("the normal form of the reversed answers is %v", got.Answers)
	}
	if got := With(rest, want[4].Q, want[4].N); !slices.Equal(got.Answers, want) {
		t.Errorf("the answers with the fifth one are %v", got.Answers)
	}
	if got, err := Decode(Encode(reversed)); err != api.OK || !slices.Equal(got.Answers, want) {
		t.Errorf("the decoded answers are %v, error %d", got.Answers, err)
	}
}

// P11.2: the last answer to exactly this question.
func TestGet(t *testing.T) {
	x := api.Tape{Events: starts(1), Answers: append(give([2]int{0, 2}, [2]int{1, 4}, [2]int{0, 3}, [2]int{2, 5}, [2]int{2, 0}, [2]int{3, 6}, [2]int{3, -7}, [2]int{4, -1}, [2]int{4, 8}, [2]int{5, math.MinInt}, [2]int{6, math.MaxInt}),
		api.Answer{Q: question(1, 0, 0, api.QDraw, 0), N: 11}, api.Answer{Q: question(0, 1, 0, api.QDraw, 0), N: 12}, api.Answer{Q: question(0, 0, 1, api.QDraw, 0), N: 13}, api.Answer{Q: question(0, 0, 0, api.QTick, 0), N: 14})}
	for index, want := range []int{3, 4, 0, 0, 8, 0, math.MaxInt, 0} {
		if got := Get(x, draw(index)); got != want {
			t.Errorf("the answer to draw %d is %d, want %d", index, got, want)
		}
	}
	for _, c := range []struct {
		q    api.Question
		want int
	}{
		{question(1, 0, 0, api.QDraw, 0), 11}, {question(0, 1, 0, api.QDraw, 0), 12}, {question(0, 0, 1, api.QDraw, 0), 13}, {question(0, 0, 0, api.QTick, 0), 14},
		{api.Question{}, 0}, {question(2, 0, 0, api.QDraw, 0), 0}, {question(0, 0, 0, api.QKeep, 0), 0}, {question(0, 0, 0, api.QDraw, -1), 0},
	} {
		if got := Get(x, c.q); got != c.want {
			t.Errorf("the answer to %v is %d, want %d", c.q, got, c.want)
		}
	}
	if got := Get(api.Tape{}, draw(0)); got != 0 {
		t.Errorf("the empty tape answers %d", got)
	}
}

// P11.2: an answer that is added, replaced or removed, on a tape that is not normal.
func TestWith(t *testing.T) {
	x := api.Tape{Events: starts(2), Answers: give([2]int{3, 1}, [2]int{1, 2}, [2]int{3, 4}, [2]int{2, 9}, [2]int{2, 0})}
	for _, c := range []struct {
		index, n int
		want     []api.Answer
	}{
		{0, 5, give([2]int{0, 5}, [2]int{1, 2}, [2]int{3, 4})},
		{1, 5, give([2]int{1, 5}, [2]int{3, 4})},
		{1, 2, give([2]int{1, 2}, [2]int{3, 4})},
		{2, math.MaxInt, give([2]int{1, 2}, [2]int{2, math.MaxInt}, [2]int{3, 4})},
		{3, 1, give([2]int{1, 2}, [2]int{3, 1})},
		{3, 0, give([2]int{1, 2})},
		{3, -1, give([2]int{1, 2})},
		{1, math.MinInt, give([2]int{3, 4})},
		{2, 0, give([2]int{1, 2}, [2]int{3, 4})},
		{0, -5, give([2]int{1, 2}, [2]int{3, 4})},
		{4, 1, give([2]int{1, 2}, [2]int{3, 4}, [2]int{4, 1})},
	} {
		got := With(x, draw(c.index), c.n)
		if !slices.Equal(got.Events, x.Events) || !slices.Equal(got.Answers, c.want) || Get(got, draw(c.index)) != max(c.n, 0) {
			t.Errorf("with the answer %d to draw %d: %v, want %v", c.n, c.index, got, c.want)
		}
	}
	if got := With(api.Tape{}, draw(1), 1); !same(got, api.Tape{Answers: give([2]int{1, 1})}) {
		t.Errorf("the empty tape with an answer is %v", got)
	}
}

// P11.3: the events in order and the answers of all steps, of which later ones take precedence.
func TestOf(t *testing.T) {
	step := func(node int, asks ...[3]int) api.Step {
		s := api.Step{Event: api.Event{Kind: api.EvStart, Node: node}, Observable: true, Sent: []api.Msg{{}}}
		for _, a := range asks {
			s.Asks = append(s.Asks, api.Ask{Q: draw(a[0]), Arity: a[1], N: a[2]})
		}
		return s
	}
	for _, c := range []struct {
		run  []api.Step
		want api.Tape
	}{
		{nil, api.Tape{}},
		{[]api.Step{{}}, api.Tape{Events: []api.Event{{}}}},
		{[]api.Step{step(0), step(1)}, api.Tape{Events: starts(2)}},
		{[]api.Step{step(0, [3]int{1, 4, 3}, [3]int{0, 4, 2}, [3]int{2, 4, 0})}, api.Tape{Events: starts(1), Answers: give([2]int{0, 2}, [2]int{1, 3})}},
		{[]api.Step{step(0, [3]int{2, 4, 3}), step(1, [3]int{0, 2, 1}), step(2, [3]int{1, 3, 2})}, api.Tape{Events: starts(3), Answers: give([2]int{0, 1}, [2]int{1, 2}, [2]int{2, 3})}},
		{[]api.Step{step(0, [3]int{0, 4, 3}), step(1, [3]int{0, 4, 1})}, api.Tape{Events: starts(2), Answers: give([2]int{0, 1})}},
		{[]api.Step{step(0, [3]int{0, 4, 1}, [3]int{0, 4, 3})}, api.Tape{Events: starts(1), Answers: give([2]int{0, 3})}},
		{[]api.Step{step(0, [3]int{0, 4, 3}, [3]int{0, 4, 0})}, api.Tape{Events: starts(1)}},
		{[]api.Step{step(0, [3]int{0, 4, 3}), step(1, [3]int{0, 4, -1})}, api.Tape{Events: starts(2)}},
		{[]api.Step{step(0, [3]int{0, 4, 0}), step(1, [3]int{0, 4, 3})}, api.Tape{Events: starts(2), Answers: give([2]int{0, 3})}},
		// The arity is not part of the tape, and does not limit the answer.
		{[]api.Step{step(0, [3]int{0, 0, 9}, [3]int{1, -3, math.MaxInt})}, api.Tape{Events: starts(1), Answers: give([2]int{0, 9}, [2]int{1, math.MaxInt})}},
		{[]api.Step{step(1), step(0), step(1)}, api.Tape{Events: []api.Event{starts(2)[1], starts(2)[0], starts(2)[1]}}},
	} {
		if got := Of(c.run); !same(got, c.want) {
			t.Errorf("the tape of %v is %v, want %v", c.run, got, c.want)
		}
	}
}

// P11.4: events are numbered before answers, and numbers that are no parts have no effect.
func TestPartsAndWithout(t *testing.T) {
	x := api.Tape{Events: starts(3), Answers: give([2]int{5, 1}, [2]int{4, 3}, [2]int{5, 2}, [2]int{6, 7}, [2]int{6, 0}, [2]int{2, -1}, [2]int{7, 1})}
	// The parts are the events 0, 1 and 2 and the answers to the draws 4, 5 and 7.
	if got := Parts(x); got != 6 {
		t.Errorf("%d parts", got)
	}
	for _, c := range []struct{ parts, events, draws []int }{
		{nil, []int{0, 1, 2}, []int{4, 5, 7}},
		{[]int{}, []int{0, 1, 2}, []int{4, 5, 7}},
		{[]int{0}, []int{1, 2}, []int{4, 5, 7}},
		{[]int{1}, []int{0, 2}, []int{4, 5, 7}},
		{[]int{2}, []int{0, 1}, []int{4, 5, 7}},
		{[]int{3}, []int{0, 1, 2}, []int{5, 7}},
		{[]int{4}, []int{0, 1, 2}, []int{4, 7}},
		{[]int{5}, []int{0, 1, 2}, []int{4, 5}},
		{[]int{4, 1, 4, 1, 1}, []int{0, 2}, []int{4, 7}},
		{[]int{6, -1, 7, 10, math.MinInt, math.MaxInt, -6}, []int{0, 1, 2}, []int{4, 5, 7}},
		{[]int{6, 3, -1, 2}, []int{0, 1}, []int{5, 7}},
		{[]int{2, 1, 0}, nil, []int{4, 5, 7}},
		{[]int{5, 3, 4}, []int{0, 1, 2}, nil},
		{[]int{0, 1, 2, 3, 4, 5}, nil, nil},
		{[]int{5, 4, 3, 2, 1, 0, 5, 6}, nil, nil},
	} {
		got := Without(x, c.parts)
		var want api.Tape
		for _, node := range c.events {
			want.Events = append(want.Events, starts(3)[node])
		}
		for _, index := range c.draws {
			want.Answers = append(want.Answers, api.Answer{Q: draw(index), N: Get(x, draw(index))})
		}
		if !same(got, want) || Parts(got) != len(c.events)+len(c.draws) {
			t.Errorf("without %d: %v, want %v", c.parts, got, want)
		}
	}
	if Parts(api.Tape{}) != 0 || Parts(api.Tape{Answers: give([2]int{0, 2}, [2]int{0, 0})}) != 0 || !same(Without(api.Tape{}, []int{0, -1}), api.Tape{}) {
		t.Error("an empty tape has parts")
	}
}

// P11.1, P11.6: tapes that differ in one place, and tapes that look different.
func TestEqual(t *testing.T) {
	e := api.Event{Kind: api.EvDeliver, Node: 1, Arg: 2, Msg: api.Msg{Cause: api.Cause{Node: 3, Handler: 4, Count: 5}, Index: 6, Copy: 7}}
	a := api.Answer{Q: question(1, 2, 3, 4, 5), N: 6}
	x := api.Tape{Events: []api.Event{e, {}}, Answers: []api.Answer{a}}
	for i := range 8 {
		l := eventNumbers(e)
		l[i]++
		y := api.Tape{Events: []api.Event{eventOf(l), {}}, Answers: x.Answers}
		if Equal(x, y) || Equal(y, x) {
			t.Errorf("%v and %v are equal", x, y)
		}
	}
	for i := range 6 {
		l := answerNumbers(a)
		l[i]++
		y := api.Tape{Events: x.Events, Answers: []api.Answer{answerOf(l)}}
		if Equal(x, y) || Equal(y, x) {
			t.Errorf("%v and %v are equal", x, y)
		}
	}
	zero, other := api.Answer{Q: question(9, 9, 9, 9, 9), N: -3}, api.Answer{Q: a.Q, N: 1}
	for _, c := range []struct {
		events  []api.Event
		answers []api.Answer
		want    bool
	}{
		{x.Events, []api.Answer{a}, true},
		{x.Events, []api.Answer{a, a}, true},
		{x.Events, []api.Answer{other, a}, true},
		{x.Events, []api.Answer{zero, a, zero}, true},
		{x.Events, []api.Answer{a, other}, false},
		{x.Events, nil, false},
		{x.Events, []api.Answer{a, {N: 1}}, false},
		{[]api.Event{{}, e}, []api.Answer{a}, false},
		{[]api.Event{e}, []api.Answer{a}, false},
		{[]api.Event{e, {}, {}}, []api.Answer{a}, false},
		{nil, []api.Answer{a}, false},
	} {
		y := api.Tape{Events: c.events, Answers: c.answers}
		if Equal(x, y) != c.want || Equal(y, x) != c.want {
			t.Errorf("%v and %v: %t", x, y, !c.want)
		}
	}
	if !Equal(api.Tape{}, api.Tape{Events: []api.Event{}, Answers: []api.Answer{zero}}) {
		t.Error("the empty tape differs from one with a negative answer")
	}
}
