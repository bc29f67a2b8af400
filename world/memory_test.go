package world

import (
	"reflect"
	"slices"
	"testing"

	"simproof/api"
)

// walk visits all numbers in the lists of a value, and behind them.
func walk(v reflect.Value, inList bool, visit func(number reflect.Value)) {
	switch {
	case v.Kind() == reflect.Interface:
		walk(v.Elem(), false, visit)
	case v.Kind() == reflect.Struct:
		for i := range v.NumField() {
			walk(v.Field(i), inList, visit)
		}
	case v.Kind() == reflect.Slice:
		whole := v.Slice3(0, v.Cap(), v.Cap())
		for i := range whole.Len() {
			walk(whole.Index(i), true, visit)
		}
	case v.Kind() == reflect.Int && inList:
		visit(v)
	}
}

// scribble gives each number in the lists of a value another value, and fails the test if one of them is in two lists.
func scribble(t *testing.T, value any) {
	t.Helper()
	given, seen := int64(0), int64(0)
	walk(reflect.ValueOf(value), false, func(number reflect.Value) {
		given++
		number.SetInt(-given)
	})
	walk(reflect.ValueOf(value), false, func(number reflect.Value) {
		seen++
		if number.Int() != -seen {
			t.Fatalf("lists share memory: %+v", value)
		}
	})
}

// spare returns a copy of a list with marked elements behind it.
func spare[T any](list []T, mark T) []T {
	return append(slices.Clone(list), mark, mark, mark)[:len(list)]
}

// busy returns a configuration, and events that fill all lists of the state, with answers.
func busy(t *testing.T) (api.Config, []api.Event, []api.Answer) {
	t.Helper()
	c := api.Config{Programs: programs(t, sources()[2], sources()[3]), First: []int{0, 1}, Restarts: []int{1, 0}, Crashes: 2, Drops: 2, Dups: 2, Drift: 1}
	c.Requests = []api.Request{{Node: 0, Op: 1, Arg: 5}, {Node: 1, Op: 0}, {Node: 0}}
	events := []api.Event{event(api.EvStart, 0, 0), event(api.EvStart, 1, 1), event(api.EvInvoke, 0, 0), event(api.EvInvoke, 1, 1), about(api.EvDup, 1, sentBy(0, 0, 0, 0)),
		event(api.EvTimer, 0, 1), event(api.EvCrash, 0, 0), event(api.EvStart, 0, 1), about(api.EvDeliver, 1, doubleOf(sentBy(0, 0, 0, 0), 1)), about(api.EvDrop, 1, sentBy(0, 0, 0, 0)), event(api.EvTimer, 1, 3)}
	return c, events, []api.Answer{{Q: api.Question{Kind: api.QTick}, N: 1}, {Q: api.Question{Cause: api.Cause{Node: 1}, Kind: api.QDraw}, N: 1}}
}

// results returns the results of all functions that have lists.
func results(w *World, e api.Event) []any {
	s, _ := w.Clone().Step(e, nil)
	return []any{w.Config(), w.Enabled(), s, w.Choices(e), w.Node(0), w.Node(1), w.Flight(), w.Observations(), w.Failures(), w.Trace(0), w.Trace(1), w.Covered()}
}

// P15.1, R4: configurations and answers are neither changed nor kept.
func TestArguments(t *testing.T) {
	c, events, answers := busy(t)
	want, _ := started(t, c)
	given := c
	given.Programs, given.First, given.Restarts, given.Requests = spare(c.Programs, api.Program{}), spare(c.First, 77), spare(c.Restarts, 77), spare(c.Requests, api.Request{Arg: 77})
	for i := range given.Programs {
		given.Programs[i].Code = spare(c.Programs[i].Code, api.Ins{Op: 77})
	}
	behind := func() string {
		l := []any{given.Programs[:cap(given.Programs)], given.First[:cap(given.First)], given.Restarts[:cap(given.Restarts)], given.Requests[:cap(given.Requests)]}
		for _, p := range given.Programs {
			l = append(l, p.Code[:cap(p.Code)])
		}
		return text(l)
	}
	before := behind()
	w, _ := New(given)
	Check(given)
	checkSame(t, "the configuration", behind(), before)
	scribble(t, given)
	for _, e := range events {
		l := spare(answers, api.Answer{N: 77})
		kept := slices.Clone(l[:cap(l)])
		w.Choices(e)
		s, err := w.Step(e, l)
		checkSame(t, "the answers", l[:cap(l)], kept)
		scribble(t, l)
		again, wantErr := want.Step(e, answers)
		checkSame(t, "the step", s, again)
		checkSame(t, "the error", err, wantErr)
		checkSame(t, "the state", state(w), state(want))
	}
}

// R4: the lists of all results are new, also within each result.
func TestResults(t *testing.T) {
	c, events, answers := busy(t)
	w, m := started(t, c)
	for _, e := range events {
		before := state(w)
		clone := w.Clone()
		scribble(t, append(results(w, e), results(clone, e)...))
		checkSame(t, "the state", state(w), before)
		checkSame(t, "the state of the clone", state(clone), before)
		s, err := checkStep(t, w, m, e, answers)
		checkSame(t, "the error", err, api.OK)
		scribble(t, s)
		checkWorld(t, w, m)
		checkSame(t, "the state of the clone", state(clone), before)
	}
}

// R4: nil and empty lists are the same.
func TestEmptyLists(t *testing.T) {
	c := api.Config{Programs: programs(t, ""), First: []int{0}, Crashes: 1}
	empty := c
	empty.Restarts, empty.Requests = []int{}, []api.Request{}
	for _, e := range []api.Event{event(api.EvStart, 0, 0), event(api.EvCrash, 0, 0), event(api.EvStart, 0, 0)} {
		w, _ := started(t, c)
		v, _ := started(t, empty)
		w.Step(e, nil)
		v.Step(e, []api.Answer{})
		checkSame(t, "the state", state(v), state(w))
	}
}

// R5: the results are the same every time, whatever else was called in between.
func TestResultsAreRepeated(t *testing.T) {
	c, events, answers := busy(t)
	var first []string
	for round := range 5 {
		w, _ := started(t, c)
		for i, e := range events {
			for range round {
				w.Clone().Step(e, nil)
				results(w, e)
			}
			s, _ := w.Step(e, answers)
			now := text(s) + state(w)
			if round == 0 {
				first = append(first, now)
			}
			checkSame(t, "the step and the state", now, first[i])
		}
	}
}
