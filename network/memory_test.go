package network

import (
	"reflect"
	"slices"
	"testing"

	"simproof/api"
)

// sets returns the sets that the functions make of a set of messages of the universe.
func sets(l []api.Envelope) [][]api.Envelope {
	var all [][]api.Envelope
	for _, e := range universe() {
		more, _ := Add(l, e)
		copied, _, _ := Copy(l, e.Msg, 7)
		all = append(all, more, Remove(l, e.Msg), copied)
	}
	return all
}

// lists returns the lists of names that To makes of a set.
func lists(l []api.Envelope) [][]api.Msg {
	var all [][]api.Msg
	for node := range 4 {
		all = append(all, To(l, node))
	}
	return all
}

// spare returns a copy of a set with marked messages behind it, and the whole of its memory.
func spare(l []api.Envelope) ([]api.Envelope, []api.Envelope) {
	whole := append(slices.Clone(l), api.Envelope{To: 99}, api.Envelope{To: 98})
	return whole[:len(l)], whole
}

// scribble changes a list and the memory behind it.
func scribble[T any](l []T, mark T) {
	for i := range l[:cap(l)] {
		l[:cap(l)][i] = mark
	}
}

// checkApart changes one result after another and checks that the other ones stay.
func checkApart[T any](t *testing.T, results, again [][]T, mark T) {
	t.Helper()
	for i, l := range results {
		scribble(l, mark)
		for k := i + 1; k < len(results); k++ {
			if !reflect.DeepEqual(results[k], again[k]) {
				t.Fatalf("result %d changed with result %d: %v", k, i, results[k])
			}
		}
	}
}

// R4: sets are not changed, and neither is the memory behind them. Results have memory of their own.
func TestSetsAreKept(t *testing.T) {
	eachSet(universe()[2:8], func(given []api.Envelope, _ bag) {
		l, whole := spare(given)
		before := slices.Clone(whole)
		want, wantNames := sets(l), lists(l)
		checkApart(t, sets(l), want, api.Envelope{To: -77})
		checkApart(t, lists(l), wantNames, api.Msg{Copy: -77})
		for _, e := range universe() {
			Find(l, e.Msg)
		}
		if !slices.Equal(whole, before) {
			t.Fatalf("the set and the memory behind it are %v, and were %v", whole, before)
		}
		if !reflect.DeepEqual(sets(l), want) || !reflect.DeepEqual(lists(l), wantNames) {
			t.Fatalf("the results of %v changed", l)
		}
	})
}

// R4: arguments are not kept.
func TestArgumentsAreNotKept(t *testing.T) {
	eachSet(universe()[2:8], func(given []api.Envelope, _ bag) {
		l, whole := spare(given)
		got, gotNames := sets(l), lists(l)
		scribble(whole, api.Envelope{To: -77})
		if !reflect.DeepEqual(got, sets(given)) || !reflect.DeepEqual(gotNames, lists(given)) {
			t.Fatalf("the results of %v changed with it", given)
		}
	})
}

// R4: a set that a function made is not changed by those made of it, nor these by each other.
func TestBranches(t *testing.T) {
	l := setOf(t, universe()[0])
	for _, e := range universe()[1:] {
		before := slices.Clone(l)
		one, _ := Add(l, e)
		other, _ := Add(l, api.Envelope{Msg: e.Msg, To: 99})
		less, none := Remove(l, universe()[0].Msg), Remove(l, e.Msg)
		scribble(other, api.Envelope{To: -77})
		scribble(less, api.Envelope{To: -77})
		scribble(none, api.Envelope{To: -77})
		if got, found := Find(one, e.Msg); !slices.Equal(l, before) || got != e || !found {
			t.Fatalf("the sets are %v and %v", l, one)
		}
		l = one
	}
}

// R4: nil and empty sets are the same.
func TestEmptySets(t *testing.T) {
	for _, l := range [][]api.Envelope{nil, {}, universe()[:0]} {
		for _, e := range universe() {
			if got, err := Add(l, e); !slices.Equal(got, []api.Envelope{e}) || err != api.OK {
				t.Errorf("%v added to an empty set: %v, error %d", e, got, err)
			}
			if got, found := Find(l, e.Msg); got != (api.Envelope{}) || found {
				t.Errorf("%v is in an empty set", got)
			}
			if got, m, err := Copy(l, e.Msg, 1); len(got) > 0 || m != (api.Msg{}) || err != api.ErrNone {
				t.Errorf("%v copied in an empty set: %v and %v, error %d", e.Msg, got, m, err)
			}
			if len(Remove(l, e.Msg)) > 0 || len(To(l, e.To)) > 0 {
				t.Errorf("an empty set without %v, or the list of its receiver, is not empty", e.Msg)
			}
		}
	}
}

// R5: the results of a call are the same every time, whatever the capacities of the sets are.
func TestResultsAreRepeated(t *testing.T) {
	first, firstNames := sets(universe()), lists(universe())
	for capacity := range 20 {
		l := slices.Grow(universe(), capacity)
		if !reflect.DeepEqual(sets(l), first) || !reflect.DeepEqual(lists(l), firstNames) {
			t.Fatal("a result differs")
		}
	}
}
