package depend

import (
	"math/rand"
	"reflect"
	"slices"
	"testing"

	"simproof/api"
)

// mark returns a step that no run contains.
func mark() api.Step {
	return api.Step{Event: api.Event{Kind: -77}, Observable: true}
}

// spare returns a copy of a list with marked elements behind it.
func spare[T any](l []T, marked T) []T {
	return append(slices.Clone(l), marked, marked)[:len(l)]
}

// spareRun returns a run with the same steps, whose lists all have marked elements behind them.
func spareRun(run []api.Step) []api.Step {
	l := spare(run, mark())
	for i, s := range run {
		l[i].Asks, l[i].Sent = spare(s.Asks, api.Ask{N: -77}), spare(s.Sent, api.Msg{Copy: -77})
	}
	return l
}

// whole returns a text of a run together with all of the memory behind its lists.
func whole(run []api.Step) string {
	s := text(run[:cap(run)])
	for _, x := range run[:cap(run)] {
		s += text(x.Asks[:cap(x.Asks)]) + text(x.Sent[:cap(x.Sent)])
	}
	return s
}

// scribble changes a run, its lists and the memory behind them.
func scribble(run []api.Step) {
	for i, s := range run {
		for k := range s.Asks[:cap(s.Asks)] {
			s.Asks[:cap(s.Asks)][k] = api.Ask{N: -78}
		}
		for k := range s.Sent[:cap(s.Sent)] {
			s.Sent[:cap(s.Sent)][k] = api.Msg{Copy: -78}
		}
		run[i] = mark()
	}
	for i := range run[:cap(run)] {
		run[:cap(run)][i] = mark()
	}
}

// exchanges returns the results of all exchanges in a run.
func exchanges(run []api.Step) [][]api.Step {
	var l [][]api.Step
	for i := -1; i <= len(run); i++ {
		swapped, _ := Swap(run, i)
		l = append(l, swapped)
	}
	return l
}

// results returns everything that the functions return for a run.
func results(run []api.Step) string {
	s := text(exchanges(run)) + text(pairsOf(run)) + text(Race(run))
	for _, a := range run {
		for _, b := range run {
			s += text(Dependent(a, b))
		}
	}
	return s
}

// R4: runs are not changed, and neither are their lists and the memory behind them.
func TestRunsAreKept(t *testing.T) {
	r := rand.New(rand.NewSource(11))
	eachRun(t, r, 20, 20, func(given []api.Step) {
		run := spareRun(given)
		before := whole(run)
		want := results(run)
		if whole(run) != before {
			t.Fatalf("the run and the memory behind it are %s, and were %s", whole(run), before)
		}
		if got := results(run); got != want {
			t.Fatalf("the results changed:\n%s\nthey were\n%s", got, want)
		}
	})
}

// R4: orders and exchanged runs do not change with the run, nor the run with them.
func TestRunsAreNotShared(t *testing.T) {
	r := rand.New(rand.NewSource(12))
	eachRun(t, r, 20, 20, func(given []api.Step) {
		run := spareRun(given)
		o, races, swapped := Order(run), Race(run), exchanges(run)
		scribble(run)
		if text(o.Covers()) != text(Order(given).Covers()) || text(races) != text(Race(given)) || text(swapped) != text(exchanges(given)) {
			t.Fatalf("the results changed with the run\n%s", runText(given))
		}
		run = spareRun(given)
		before := whole(run)
		for _, s := range exchanges(run) {
			scribble(s)
		}
		if whole(run) != before {
			t.Fatalf("the run changed with the results, it was\n%s", runText(given))
		}
	})
}

// R4: the results of several calls, and the lists within one, have memory of their own.
func TestResultsAreApart(t *testing.T) {
	m, q := msg(0, 2, 0, 0, 0), api.Ask{Arity: 2, N: 1}
	sent, asks := []api.Msg{m, m}, []api.Ask{q, q}
	run := []api.Step{timer(0), timer(1), timer(2)}
	for i := range run {
		// All steps have the same lists.
		run[i].Sent, run[i].Asks = sent, asks
	}
	first, _ := Swap(run, 0)
	second, _ := Swap(run, 0)
	want := text(second)
	// Every list of the first result is changed before it is checked that those of the others are as they were.
	for i := range first {
		before := text(first[i+1:])
		first[i].Asks[0], first[i].Sent[0] = api.Ask{N: -79}, api.Msg{Copy: -79}
		if text(first[i+1:]) != before {
			t.Errorf("the steps after step %d changed with it: %+v", i, first)
		}
	}
	scribble(first)
	if text(second) != want {
		t.Errorf("the result of one call changed with that of another one: %+v", second)
	}
	races := Race([]api.Step{timer(0), timer(0), timer(0)})
	races = append(races[:1], [2]int{9, 9})
	if again := Race([]api.Step{timer(0), timer(0), timer(0)}); !slices.Equal(again, [][2]int{{0, 1}, {1, 2}}) {
		t.Errorf("the races are %v, not %v", again, races)
	}
}

// R4: nil and empty lists are the same.
func TestEmptyLists(t *testing.T) {
	empty := func(s api.Step) api.Step {
		s.Asks, s.Sent = []api.Ask{}, []api.Msg{}
		return s
	}
	for _, a := range []api.Step{timer(0), visible(timer(1)), about(api.EvDeliver, 2, api.Msg{})} {
		for _, b := range []api.Step{timer(0), visible(timer(1)), about(api.EvDeliver, 2, api.Msg{})} {
			if results([]api.Step{a, b}) != results([]api.Step{empty(a), empty(b)}) {
				t.Errorf("the results of %+v and %+v depend on their empty lists", a, b)
			}
		}
	}
	if results(nil) != results([]api.Step{}) {
		t.Error("the results of a run without steps depend on how it is given")
	}
}

// R5: the results of a call are the same every time, whatever the capacities of the lists are.
func TestResultsAreRepeated(t *testing.T) {
	r := rand.New(rand.NewSource(13))
	eachRun(t, r, 20, 20, func(run []api.Step) {
		if results(slices.Clip(run)) != results(spareRun(run)) || !reflect.DeepEqual(Order(run), Order(spareRun(run))) {
			t.Fatalf("the results differ for the run\n%s", runText(run))
		}
	})
}
