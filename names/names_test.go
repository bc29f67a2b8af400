package names

import (
	"math"
	"reflect"
	"strings"
	"testing"

	"simproof/api"
)

// checkRow fails the test unless the values of a list are in increasing order.
func checkRow[T any](t *testing.T, compare func(a, b T) int, row []T) {
	t.Helper()
	for i := range row {
		for k := range row {
			want := 0
			if i < k {
				want = -1
			} else if i > k {
				want = 1
			}
			if got := compare(row[i], row[k]); got != want {
				t.Errorf("%+v and %+v: %d, want %d", row[i], row[k], got, want)
			}
		}
	}
}

// msg returns a message.
func msg(node, handler, count, index, copied int) api.Msg {
	return api.Msg{Cause: api.Cause{Node: node, Handler: handler, Count: count}, Index: index, Copy: copied}
}

// question returns a question.
func question(node, handler, count, kind, index int) api.Question {
	return api.Question{Cause: api.Cause{Node: node, Handler: handler, Count: count}, Kind: kind, Index: index}
}

// P10.1: every number of a message matters more than those after it.
func TestCompareMsg(t *testing.T) {
	checkRow(t, CompareMsg, []api.Msg{
		msg(math.MinInt, 9, 9, 9, 9), msg(-1, 9, 9, 9, 9),
		{}, msg(0, 0, 0, 0, 1), msg(0, 0, 0, 1, 0), msg(0, 0, 1, 0, -1), msg(0, 0, 1, 0, 0), msg(0, 0, 2, -1, 5),
		msg(0, 1, 0, 0, 0), msg(0, 1, 0, 0, 9), msg(0, 10, 0, 0, 0), msg(1, -2, 9, 9, 9), msg(1, 0, 0, 0, 0),
		msg(2, 0, 0, 0, 0), msg(10, 0, 0, 0, 0), msg(math.MaxInt, math.MinInt, 0, 0, 0), msg(math.MaxInt, math.MaxInt, 0, 0, 0),
	})
}

// P10.1: every number of an event matters more than those after it.
func TestCompareEvent(t *testing.T) {
	checkRow(t, CompareEvent, []api.Event{
		{Kind: -1, Node: 9, Arg: 9, Msg: msg(9, 9, 9, 9, 9)},
		{}, {Msg: msg(0, 0, 0, 0, 1)}, {Msg: msg(0, 0, 0, 1, 0)}, {Msg: msg(0, 0, 1, 0, 0)}, {Msg: msg(0, 1, 0, 0, 0)}, {Msg: msg(1, 0, 0, 0, 0)},
		{Arg: 1}, {Arg: 1, Msg: msg(0, 0, 0, 0, 5)}, {Arg: 10}, {Node: 1, Arg: -5}, {Node: 1}, {Node: 2}, {Node: 11},
		{Kind: api.EvStart}, {Kind: api.EvInvoke}, {Kind: api.EvDeliver, Node: -1, Arg: 9, Msg: msg(9, 9, 9, 9, 9)}, {Kind: api.EvDeliver},
		{Kind: api.EvTimer}, {Kind: api.EvDrop}, {Kind: api.EvDup}, {Kind: api.EvCrash}, {Kind: math.MaxInt, Node: math.MinInt}, {Kind: math.MaxInt, Node: math.MaxInt},
	})
}

// P10.1: the cause of a question matters more than its kind.
func TestCompareQuestion(t *testing.T) {
	checkRow(t, CompareQuestion, []api.Question{
		question(math.MinInt, 9, 9, 9, 9), question(-1, 9, 9, 9, 9),
		{}, question(0, 0, 0, 0, 1), question(0, 0, 0, api.QDraw, 0), question(0, 0, 0, api.QDraw, 7), question(0, 0, 0, api.QTick, -1), question(0, 0, 0, api.QTick, 0), question(0, 0, 0, api.QKeep, 0),
		question(0, 0, 1, 0, 0), question(0, 0, 10, 0, 0), question(0, 1, 0, 0, 0), question(0, 40, 0, 0, 0), question(1, -1, 0, 0, 0), question(1, 0, 0, 0, 0),
		question(math.MaxInt, 0, 0, 0, math.MinInt), question(math.MaxInt, 0, 0, 0, math.MaxInt),
	})
}

// P10.1: steps are compared by their events, then question by question.
func TestCompareStep(t *testing.T) {
	step := func(node int, asks ...api.Ask) api.Step {
		return api.Step{Event: api.Event{Kind: api.EvStart, Node: node}, Asks: asks}
	}
	ask := func(index, n int) api.Ask { return api.Ask{Q: question(0, 0, 0, api.QDraw, index), N: n} }
	checkRow(t, CompareStep, []api.Step{
		step(0), step(0, ask(0, -1)), step(0, ask(0, 0)), step(0, ask(0, 0), ask(0, 0)), step(0, ask(0, 0), ask(0, 0), ask(0, 0)), step(0, ask(0, 0), ask(1, 0)), step(0, ask(0, 0), ask(1, 2)),
		// The first answer matters more than the second question.
		step(0, ask(0, 1)), step(0, ask(0, 1), ask(0, 0)), step(0, ask(1, -7)), step(0, ask(1, 0)), step(0, ask(2, 0), ask(-1, -1)),
		step(1), step(1, ask(0, 0)), step(2, ask(-1, 0)),
	})
}

// P10.1, P10.4: the arities, the observability and the messages that were sent are not compared, and no list is the same as an empty one (R4).
func TestUncomparedFields(t *testing.T) {
	e, q := api.Event{Kind: api.EvTimer, Node: 2, Arg: 1}, question(2, 3, 0, api.QDraw, 0)
	a := api.Step{Event: e, Asks: []api.Ask{{Q: q, Arity: 2, N: 1}}}
	b := api.Step{Event: e, Asks: []api.Ask{{Q: q, Arity: 4, N: 1}}, Observable: true, Sent: []api.Msg{msg(2, 3, 0, 0, 0)}}
	c := api.Step{Event: e, Asks: []api.Ask{}, Sent: []api.Msg{}}
	d := api.Step{Event: e, Observable: true}
	for _, p := range [][2]api.Step{{a, b}, {b, a}, {c, d}, {d, c}} {
		if got := CompareStep(p[0], p[1]); got != 0 {
			t.Errorf("%+v and %+v: %d", p[0], p[1], got)
		}
	}
}

// P10.2, P10.3: the texts of the chapter and of every kind, with the least and the greatest numbers.
func TestTexts(t *testing.T) {
	least, greatest := msg(0, 0, 0, 0, 0), msg(11, 39, 2147483647, 2147483647, 2147483647)
	for _, c := range []struct {
		e    api.Event
		text string
	}{
		{api.Event{Kind: api.EvDeliver, Node: 2, Msg: msg(1, 12, 0, 3, 0)}, "deliver 2 1.12.0.3.0"},
		{api.Event{Kind: api.EvStart}, "start 0 0"}, {api.Event{Kind: api.EvStart, Node: 11, Arg: 2147483647}, "start 11 2147483647"},
		{api.Event{Kind: api.EvInvoke}, "invoke 0 0"}, {api.Event{Kind: api.EvInvoke, Node: 11, Arg: 2147483647}, "invoke 11 2147483647"},
		{api.Event{Kind: api.EvDeliver, Msg: least}, "deliver 0 0.0.0.0.0"}, {api.Event{Kind: api.EvDeliver, Node: 11, Msg: greatest}, "deliver 11 11.39.2147483647.2147483647.2147483647"},
		{api.Event{Kind: api.EvTimer}, "timer 0 0"}, {api.Event{Kind: api.EvTimer, Node: 11, Arg: 2147483647}, "timer 11 2147483647"},
		{api.Event{Kind: api.EvDrop, Msg: least}, "drop 0 0.0.0.0.0"}, {api.Event{Kind: api.EvDrop, Node: 11, Msg: greatest}, "drop 11 11.39.2147483647.2147483647.2147483647"},
		{api.Event{Kind: api.EvDup, Msg: least}, "dup 0 0.0.0.0.0"}, {api.Event{Kind: api.EvDup, Node: 11, Msg: greatest}, "dup 11 11.39.2147483647.2147483647.2147483647"},
		{api.Event{Kind: api.EvCrash}, "crash 0"}, {api.Event{Kind: api.EvCrash, Node: 11}, "crash 11"},
	} {
		if got := Event(c.e); got != c.text {
			t.Errorf("the text of %+v is %q, want %q", c.e, got, c.text)
		}
		if got, err := ParseEvent(c.text); got != c.e || err != api.OK {
			t.Errorf("the event %q is %+v, %v", c.text, got, err)
		}
	}
	for _, c := range []struct {
		q    api.Question
		text string
	}{
		{question(0, 0, 0, api.QDraw, 0), "draw 0.0.0 0"}, {question(11, 39, 2147483647, api.QDraw, 2147483647), "draw 11.39.2147483647 2147483647"},
		{question(0, 0, 0, api.QTick, 0), "tick 0.0.0 0"}, {question(1, 2, 3, api.QTick, 4), "tick 1.2.3 4"},
		{question(0, 0, 0, api.QKeep, 0), "keep 0.0.0 0"}, {question(11, 40, 2147483647, api.QKeep, 2147483647), "keep 11.40.2147483647 2147483647"},
	} {
		if got := Question(c.q); got != c.text {
			t.Errorf("the text of %+v is %q, want %q", c.q, got, c.text)
		}
		if got, err := ParseQuestion(c.text); got != c.q || err != api.OK {
			t.Errorf("the question %q is %+v, %v", c.text, got, err)
		}
	}
}

// P10.2, P10.3: events and questions without a text.
func TestNoTexts(t *testing.T) {
	for _, e := range []api.Event{
		{}, {Kind: -1}, {Kind: 8}, {Kind: math.MinInt}, {Kind: math.MaxInt},
		{Kind: api.EvStart, Node: -1}, {Kind: api.EvStart, Node: 12}, {Kind: api.EvStart, Arg: -1}, {Kind: api.EvStart, Arg: 2147483648}, {Kind: api.EvStart, Msg: msg(0, 0, 0, 0, 1)},
		{Kind: api.EvInvoke, Arg: -1}, {Kind: api.EvInvoke, Msg: msg(0, 0, 0, 1, 0)}, {Kind: api.EvTimer, Arg: math.MaxInt}, {Kind: api.EvTimer, Msg: msg(0, 0, 1, 0, 0)},
		{Kind: api.EvDeliver, Arg: 1}, {Kind: api.EvDrop, Arg: -1}, {Kind: api.EvDup, Arg: 1},
		{Kind: api.EvDeliver, Msg: msg(12, 0, 0, 0, 0)}, {Kind: api.EvDeliver, Msg: msg(-1, 0, 0, 0, 0)}, {Kind: api.EvDrop, Msg: msg(0, 40, 0, 0, 0)}, {Kind: api.EvDrop, Msg: msg(0, -1, 0, 0, 0)},
		{Kind: api.EvDup, Msg: msg(0, 0, -1, 0, 0)}, {Kind: api.EvDup, Msg: msg(0, 0, 2147483648, 0, 0)}, {Kind: api.EvDup, Msg: msg(0, 0, 0, -1, 0)}, {Kind: api.EvDup, Msg: msg(0, 0, 0, 2147483648, 0)}, {Kind: api.EvDup, Msg: msg(0, 0, 0, 0, -1)}, {Kind: api.EvDup, Msg: msg(0, 0, 0, 0, 2147483648)},
		{Kind: api.EvCrash, Node: 12}, {Kind: api.EvCrash, Node: -1}, {Kind: api.EvCrash, Arg: 1}, {Kind: api.EvCrash, Msg: msg(1, 0, 0, 0, 0)},
	} {
		if got := Event(e); got != "" {
			t.Errorf("the text of %+v is %q", e, got)
		}
	}
	for _, q := range []api.Question{
		{}, question(0, 0, 0, -1, 0), question(0, 0, 0, 4, 0), question(0, 0, 0, math.MaxInt, 0), question(0, 0, 0, math.MinInt, 0),
		question(12, 0, 0, api.QDraw, 0), question(-1, 0, 0, api.QDraw, 0), question(0, 41, 0, api.QKeep, 0), question(0, -1, 0, api.QKeep, 0),
		question(0, 0, -1, api.QTick, 0), question(0, 0, 2147483648, api.QTick, 0), question(0, 0, 0, api.QTick, -1), question(0, 0, 0, api.QTick, 2147483648),
	} {
		if got := Question(q); got != "" {
			t.Errorf("the text of %+v is %q", q, got)
		}
	}
}

// P10.2, P10.3: strings that are no texts.
func TestNoForms(t *testing.T) {
	for _, s := range []string{
		"", " ", ".", "0", "crash", "crash ", " crash 1", "crash 1 ", "crash 1\n", "crash\t1", "crash  1", "crash 02", "crash 00", "crash -0", "crash +1", "crash -1", "crash 12", "crash 1.0", "crash 1 0", "Crash 1", "crashed 1", "cras 1", "crash 0x1", "crash 1_0", "crash ١", "crash1", "crash.1", "crash 1\x00", "crash \xff",
		"start", "start 1", "start 1 ", "start 1 2 3", "start 1.2", "start 1 02", "start 1 2147483648", "start 1 4294967296", "start 1 18446744073709551616", "start 1 18446744073709551617", "start 12 0", "timer 0  1", "invoke 1 -1", "invoke 1 1.0", "start 1 1.0.0.0.0",
		"deliver 2", "deliver 2 1", "deliver 2 1.12.0.3", "deliver 2 1.12.0.3.", "deliver 2 1.12.0.3.0.0", "deliver 2 1 12 0 3 0", "deliver 2.1.12.0.3.0", "deliver 2 1.12.0 3.0", "deliver 2 1..0.3.0", "deliver 2 .1.12.0.3.0", "deliver 2 1.12.0.03.0", "deliver 2 1.40.0.3.0", "deliver 2 12.12.0.3.0", "drop 0 1.2.3.4.2147483648", "dup 12 1.2.3.4.5", "dup 1 1.2.3.-4.5",
		"draw", "draw 0.0.0", "draw 0.0.0 ", "draw 0.0 0", "draw 0.0.0.0", "draw 0.0.0 0 0", "draw 0.0.0.0 0", "draw 0 0.0.0", "draw 0.0.0 00", "draw 0.0.0 -1", "draw 0.0.0 2147483648", "draw 12.0.0 0", "tick 0.41.0 0", "tick 0.0.01 0", "keep  0.40.0 0", "Keep 0.40.0 0", "keep 0.40.0 0 ",
	} {
		if e, err := ParseEvent(s); e != (api.Event{}) || err != api.ErrForm {
			t.Errorf("the event %q is %+v, %v", s, e, err)
		}
		if q, err := ParseQuestion(s); q != (api.Question{}) || err != api.ErrForm {
			t.Errorf("the question %q is %+v, %v", s, q, err)
		}
	}
}

// P10.2, P10.3: strings that are much longer than every text.
func TestLongStrings(t *testing.T) {
	const long = 1 << 20
	for _, part := range []string{"0", "1", "9", ".", " ", "0.", " 1", "x", "\xff", "crash 1"} {
		rest := strings.Repeat(part, long/len(part))
		for _, start := range []string{"", "crash ", "crash 1", "start 1 ", "deliver 2 1.12.0.3.0", "deliver 2 1.", "draw 0.0.0 0", "draw 0."} {
			if checkParse(t, start+rest) {
				t.Errorf("%q with many %q is a text", start, part)
			}
		}
	}
}

// R4: steps that are compared are not changed, and neither is the memory behind their lists.
func TestArgumentsAreKept(t *testing.T) {
	make3 := func(last int) []api.Ask {
		return []api.Ask{{Q: question(0, 1, 2, api.QTick, 0), Arity: 2, N: 1}, {Q: question(0, 1, 2, api.QDraw, 1), Arity: 3}, {Arity: last}}
	}
	a, b := make3(1), make3(2)
	CompareStep(api.Step{Asks: a[:2]}, api.Step{Asks: b[:1]})
	CompareStep(api.Step{Asks: a[:2]}, api.Step{Asks: b[:2]})
	if !reflect.DeepEqual(a, make3(1)) || !reflect.DeepEqual(b, make3(2)) {
		t.Errorf("the lists are %v and %v", a, b)
	}
}
