package depend

import (
	"fmt"
	"slices"
	"strings"
	"testing"

	"simproof/api"
	"simproof/poset"
)

// The definitions of the chapter, followed literally.

// facts is what matters of a step, with texts as the names of messages.
type facts struct {
	node       int
	observable bool
	sent       map[string]bool
	consumed   string // "" if there is no such message
}

// name returns the name of a message, or of a copy of it.
func name(m api.Msg, copies int) string {
	return fmt.Sprint(m.Cause.Node, m.Cause.Handler, m.Cause.Count, m.Index, copies)
}

// factsOf returns what matters of some steps.
func factsOf(run ...api.Step) []facts {
	var l []facts
	for _, s := range run {
		f := facts{node: s.Event.Node, observable: s.Observable, sent: map[string]bool{}}
		for _, m := range s.Sent {
			f.sent[name(m, m.Copy)] = true
		}
		if slices.Contains([]int{api.EvDeliver, api.EvDrop, api.EvDup}, s.Event.Kind) {
			f.consumed = name(s.Event.Msg, 0)
		}
		l = append(l, f)
	}
	return l
}

// hasSent reports whether a step sent the message that another one consumes.
func hasSent(from, to facts) bool { return from.sent[to.consumed] }

// areDependent returns what follows from the chapter's definition of dependence.
func areDependent(a, b facts) bool {
	sameNode, bothObservable := a.node == b.node, a.observable && b.observable
	return sameNode || bothObservable || hasSent(a, b) || hasSent(b, a)
}

// definedDependent does the same for steps.
func definedDependent(a, b api.Step) bool {
	l := factsOf(a, b)
	return areDependent(l[0], l[1])
}

// before is a relation: before[i][k] says whether i comes before k.
type before [][]bool

// definedOrder returns the least transitive relation in which earlier dependent steps come before later ones.
func definedOrder(run []api.Step) before {
	r, l := make(before, len(run)), factsOf(run...)
	for i := range r {
		r[i] = make([]bool, len(run))
		for k := i + 1; k < len(run); k++ {
			r[i][k] = areDependent(l[i], l[k])
		}
	}
	for j := range r {
		for i := range r {
			for k := range r {
				r[i][k] = r[i][k] || r[i][j] && r[j][k]
			}
		}
	}
	return r
}

// isBetween reports whether some position is after i and before k.
func (r before) isBetween(i, k int) bool {
	for j := range r {
		if r[i][j] && r[j][k] {
			return true
		}
	}
	return false
}

// definedRace returns the pairs that the chapter describes.
func definedRace(run []api.Step, r before) [][2]int {
	var races [][2]int
	l := factsOf(run...)
	for i := range run {
		for k := range run {
			if i < k && areDependent(l[i], l[k]) && !hasSent(l[i], l[k]) && !r.isBetween(i, k) {
				races = append(races, [2]int{i, k})
			}
		}
	}
	return races
}

// definedSwap returns what follows from the chapter for an exchange.
func definedSwap(run []api.Step, i int) ([]api.Step, api.Errno) {
	switch {
	case i < 0 || i >= len(run)-1:
		return nil, api.ErrArg
	case definedDependent(run[i], run[i+1]):
		return nil, api.ErrOrder
	}
	return slices.Concat(run[:i], []api.Step{run[i+1], run[i]}, run[i+2:]), api.OK
}

// text returns a value as a text, in which nil and empty lists are the same.
func text(x any) string { return fmt.Sprintf("%+v", x) }

// runText returns a run as a text, a line for each step.
func runText(run []api.Step) string {
	var s strings.Builder
	for i, x := range run {
		fmt.Fprintf(&s, "%d: %+v\n", i, x)
	}
	return s.String()
}

// checkDependent compares what Dependent returns for two steps, in both orders, with the definition.
func checkDependent(t *testing.T, a, b api.Step) bool {
	t.Helper()
	want := definedDependent(a, b)
	if Dependent(a, b) != want || Dependent(b, a) != want {
		t.Fatalf("%+v and %+v: %t and %t, want %t", a, b, Dependent(a, b), Dependent(b, a), want)
	}
	return want
}

// checkOrder compares the order of a run with a relation.
func checkOrder(t *testing.T, run []api.Step, want before) *poset.Order {
	t.Helper()
	o := Order(run)
	if o.Len() != len(run) {
		t.Fatalf("the order of %d steps has the length %d", len(run), o.Len())
	}
	for i := range run {
		for k := range run {
			if o.Less(i, k) != want[i][k] {
				t.Fatalf("%d before %d: %t, want %t, in the run\n%s", i, k, o.Less(i, k), want[i][k], runText(run))
			}
		}
	}
	return o
}

// checkSwap compares an exchange in a run with the definition, and returns the run afterwards.
func checkSwap(t *testing.T, run []api.Step, i int) ([]api.Step, api.Errno) {
	t.Helper()
	got, err := Swap(run, i)
	want, wantErr := definedSwap(run, i)
	if err != wantErr || runText(got) != runText(want) {
		t.Fatalf("steps %d and %d exchanged: error %d\n%s\nwant error %d\n%s", i, i+1, err, runText(got), wantErr, runText(want))
	}
	return got, err
}

// checkOrderAndRaces compares the order and the races of a run with the definitions, and returns them.
func checkOrderAndRaces(t *testing.T, run []api.Step) (*poset.Order, [][2]int) {
	t.Helper()
	want := definedOrder(run)
	o := checkOrder(t, run, want)
	races := Race(run)
	if want := definedRace(run, want); !slices.Equal(races, want) {
		t.Fatalf("the races are %v, want %v, in the run\n%s", races, want, runText(run))
	}
	return o, races
}

// checkRun compares the results of all functions for a run with the definitions, and returns its order and its races.
func checkRun(t *testing.T, run []api.Step) (*poset.Order, [][2]int) {
	t.Helper()
	for i := -2; i <= len(run)+1; i++ {
		checkSwap(t, run, i)
	}
	return checkOrderAndRaces(t, run)
}
