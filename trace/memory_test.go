package trace

import (
	"math/rand"
	"slices"
	"testing"

	"simproof/api"
)

// mark returns a step that no run contains.
func mark() api.Step {
	return api.Step{Event: api.Event{Kind: -77}, Observable: true}
}

// spare returns a copy of a list with marked elements behind it.
func spare[T any](l []T, marked T) []T {
	return append(slices.Clone(l), marked, marked)[:len(l)]
}

// spareRun returns a run with the same steps, whose lists all have marked elements behind them.
func spareRun(run []api.Step) []api.Step {
	l := spare(run, mark())
	for i, s := range run {
		l[i].Asks, l[i].Sent = spare(s.Asks, api.Ask{N: -77}), spare(s.Sent, api.Msg{Copy: -77})
	}
	return l
}

// whole returns a text of a run together with all of the memory behind its lists.
func whole(run []api.Step) string {
	s := text(run[:cap(run)])
	for _, x := range run[:cap(run)] {
		s += text(x.Asks[:cap(x.Asks)]) + text(x.Sent[:cap(x.Sent)])
	}
	return s
}

// scribble changes a run, its lists and the memory behind them.
func scribble(run []api.Step) {
	for i, s := range run {
		for k := range s.Asks[:cap(s.Asks)] {
			s.Asks[:cap(s.Asks)][k] = api.Ask{N: -78}
		}
		for k := range s.Sent[:cap(s.Sent)] {
			s.Sent[:cap(s.Sent)][k] = api.Msg{Copy: -78}
		}
		run[i] = mark()
	}
	for i := range run[:cap(run)] {
		run[:cap(run)][i] = mark()
	}
}

// made returns the runs that the functions make of a run.
func made(run []api.Step) [][]api.Step {
	return [][]api.Step{Normal(run), Observable(run), Project(run, 0), Project(run, 1), Project(run, 2)}
}

// results returns everything that the functions return for a run.
func results(run []api.Step) string {
	s := text(made(run)) + text(Key(run))
	runs := [][]api.Step{run, run[:len(run)/2], run, run[len(run)/2:]}
	for _, a := range runs {
		for _, b := range runs {
			s += text(Equivalent(a, b))
		}
	}
	return s + text(Classes(runs))
}

// R4: runs are not changed, and neither are their lists and the memory behind them.
func TestRunsAreKept(t *testing.T) {
	r := rand.New(rand.NewSource(11))
	eachRun(t, r, 40, 20, func(given []api.Step) {
		run := spareRun(given)
		before := whole(run)
		want := results(run)
		if whole(run) != before {
			t.Fatalf("the run and the memory behind it are %s, and were %s", whole(run), before)
		}
		if got := results(run); got != want {
			t.Fatalf("the results changed:\n%s\nthey were\n%s", got, want)
		}
	})
}

// R4: the list of runs that Classes is given is not changed, and its result does not change with it.
func TestListsOfRunsAreKept(t *testing.T) {
	a, b := []api.Step{timer(1, 0), timer(0, 0)}, []api.Step{timer(0, 0), timer(1, 0)}
	runs := spare([][]api.Step{a, b, nil, a}, []api.Step{mark()})
	before := text(runs[:cap(runs)])
	got := Classes(runs)
	if text(runs[:cap(runs)]) != before {
		t.Errorf("the runs are %v, and were %s", runs[:cap(runs)], before)
	}
	clear(runs)
	if want := [][]int{{0, 1, 3}, {2}}; text(got) != text(want) {
		t.Errorf("the classes are %v, want %v", got, want)
	}
}

// R4: the runs that are returned do not change with the one that was given, nor this one with them.
func TestRunsAreNotShared(t *testing.T) {
	r := rand.New(rand.NewSource(12))
	eachRun(t, r, 40, 20, func(given []api.Step) {
		run := spareRun(given)
		l := made(run)
		scribble(run)
		if text(l) != text(made(given)) {
			t.Fatalf("the results changed with the run\n%s", runText(given))
		}
		run = spareRun(given)
		before := whole(run)
		for _, made := range made(run) {
			scribble(made)
		}
		if whole(run) != before {
			t.Fatalf("the run changed with the results, it was\n%s", runText(given))
		}
	})
}

// R4: the results of several calls, and the lists within one, have memory of their own.
func TestResultsAreApart(t *testing.T) {
	m, q := msg(0, 2, 0, 0, 0), api.Ask{Arity: 2, N: 1}
	sent, asks := []api.Msg{m, m}, []api.Ask{q, q}
	run := []api.Step{visible(timer(0, 0)), visible(timer(0, 1)), visible(timer(0, 2))}
	for i := range run {
		// All steps have the same lists.
		run[i].Sent, run[i].Asks = sent, asks
	}
	for k, first := range made(run)[:3] {
		second := made(run)[k]
		want := text(second)
		if len(first) != 3 {
			t.Fatalf("result %d has %d steps", k, len(first))
		}
		// Every list of the first result is changed before it is checked that those of the others are as they were.
		for i := range first {
			before := text(first[i+1:])
			first[i].Asks[0], first[i].Sent[0] = api.Ask{N: -79}, api.Msg{Copy: -79}
			if text(first[i+1:]) != before {
				t.Errorf("result %d: the steps after step %d changed with it: %+v", k, i, first)
			}
		}
		scribble(first)
		if text(second) != want {
			t.Errorf("result %d: the result of one call changed with that of another one: %+v", k, second)
		}
	}
	classes := Classes([][]api.Step{run, nil, run, nil, run[:1], nil})
	for i := range classes {
		_ = append(classes[i], -1, -1, -1)
	}
	for i, want := range []string{"[0 2]", "[1 3 5]", "[4]"} {
		if got := text(classes[i]); got != want {
			t.Errorf("class %d is %s, not %s", i, got, want)
		}
		classes[i][0] = -2
	}
}

// R4: nil and empty lists are the same.
func TestEmptyLists(t *testing.T) {
	r := rand.New(rand.NewSource(13))
	eachRun(t, r, 40, 20, func(run []api.Step) {
		other := slices.Clone(run)
		for i, s := range other {
			if len(s.Asks) == 0 {
				other[i].Asks = []api.Ask{}
			}
			if len(s.Sent) == 0 {
				other[i].Sent = []api.Msg{}
			}
		}
		if results(run) != results(other) {
			t.Fatalf("the results depend on the empty lists of\n%s", runText(run))
		}
		checkEquivalent(t, run, other, true)
		checkClasses(t, [][]api.Step{run, other}, [][]int{{0, 1}})
	})
	if results(nil) != results([]api.Step{}) {
		t.Error("the results of a run without steps depend on how it is given")
	}
}

// R5: the results of a call are the same every time, whatever the capacities of the lists are.
func TestResultsAreRepeated(t *testing.T) {
	r := rand.New(rand.NewSource(14))
	eachRun(t, r, 40, 20, func(run []api.Step) {
		if results(slices.Clip(run)) != results(spareRun(run)) {
			t.Fatalf("the results differ for the run\n%s", runText(run))
		}
	})
}
