package trace

import (
	"cmp"
	"fmt"
	"reflect"
	"slices"
	"strings"
	"testing"

	"simproof/api"
	"simproof/depend"
	"simproof/hash"
	"simproof/names"
	"simproof/poset"
)

// The definitions of the chapter, followed literally.

// text returns a value as a text, in which nil and empty lists are the same.
func text(x any) string { return fmt.Sprintf("%+v", x) }

// runText returns a run as a text, a line for each step. It has all fields of the steps, so that different runs have different texts.
func runText(run []api.Step) string {
	var s strings.Builder
	for i, x := range run {
		fmt.Fprintf(&s, "%d: %+v\n", i, x)
	}
	return s.String()
}

// definedClass returns the runs into which a run can be turned by exchanges, by their texts.
func definedClass(run []api.Step) map[string][]api.Step {
	class := map[string][]api.Step{runText(run): run}
	for queue := [][]api.Step{run}; len(queue) > 0; queue = queue[1:] {
		for i := range queue[0] {
			next, e := depend.Swap(queue[0], i)
			if e != api.OK {
				continue
			}
			if key := runText(next); class[key] == nil {
				class[key] = next
				queue = append(queue, next)
			}
		}
	}
	return class
}

// compareRuns compares two runs of the same length at the first position where their steps do not compare as 0.
func compareRuns(a, b []api.Step) int {
	for i := range a {
		if c := names.CompareStep(a[i], b[i]); c != 0 {
			return c
		}
	}
	return 0
}

// definedNormal returns the run of a class that comes before all others.
func definedNormal(t *testing.T, class map[string][]api.Step) []api.Step {
	t.Helper()
	var least []api.Step
	for _, run := range class {
		if least == nil || compareRuns(run, least) < 0 {
			least = run
		}
	}
	for key, run := range class {
		if key != runText(least) && compareRuns(least, run) >= 0 {
			t.Fatalf("no run comes before all others:\n%s\nand\n%s", runText(least), key)
		}
	}
	return least
}

// isNext reports whether no remaining step happens before another one.
func isNext(o *poset.Order, left []int, i int) bool {
	return !slices.ContainsFunc(left, func(k int) bool { return o.Less(k, i) })
}

// greedyNormal returns the run that repeatedly has the least of the steps that no remaining step happens before.
func greedyNormal(run []api.Step) []api.Step {
	o := depend.Order(run)
	var l []api.Step
	var left []int
	for i := range run {
		left = append(left, i)
	}
	for len(left) > 0 {
		best := -1
		for _, i := range left {
			if isNext(o, left, i) && (best < 0 || names.CompareStep(run[i], run[best]) < 0) {
				best = i
			}
		}
		l = append(l, run[best])
		left = slices.DeleteFunc(left, func(i int) bool { return i == best })
	}
	return l
}

// flatten returns all numbers of a value in the order of their declarations, and the lengths of lists before their elements.
func flatten(v reflect.Value) []int {
	var l []int
	switch v.Kind() {
	case reflect.Int:
		return []int{int(v.Int())}
	case reflect.Bool:
		if v.Bool() {
			return []int{1}
		}
		return []int{0}
	case reflect.Slice:
		l = append(l, v.Len())
		for i := range v.Len() {
			l = append(l, flatten(v.Index(i))...)
		}
	case reflect.Struct:
		for i := range v.NumField() {
			l = append(l, flatten(v.Field(i))...)
		}
	}
	return l
}

// definedKey returns the key of a class with a normal form.
func definedKey(form []api.Step) uint64 {
	// The types of package api declare their fields in the order of the words; the length of the run is not among these.
	return hash.Sum("trace", flatten(reflect.ValueOf(form))[1:]...)
}

// definedProject returns the steps of a run at a node.
func definedProject(run []api.Step, node int) []api.Step {
	return slices.DeleteFunc(slices.Clone(run), func(s api.Step) bool { return s.Event.Node != node })
}

// definedObservable returns the observable steps of a run.
func definedObservable(run []api.Step) []api.Step {
	return slices.DeleteFunc(slices.Clone(run), func(s api.Step) bool { return !s.Observable })
}

// definedClasses returns the indices of values, those of equal ones together.
func definedClasses(values []string) [][]int {
	members := map[string][]int{}
	for i, v := range values {
		members[v] = append(members[v], i)
	}
	var l [][]int
	for _, m := range members {
		l = append(l, m)
	}
	slices.SortFunc(l, func(a, b []int) int { return cmp.Compare(a[0], b[0]) })
	return l
}

// views returns what can be seen of a run at each of its nodes and by observers.
func views(run []api.Step) string {
	nodes := map[int]string{}
	for _, s := range run {
		if nodes[s.Event.Node] == "" {
			nodes[s.Event.Node] = runText(Project(run, s.Event.Node))
		}
	}
	return text(nodes) + runText(Observable(run))
}

// checkProjections compares the projections of a run with the definitions.
func checkProjections(t *testing.T, run []api.Step) {
	t.Helper()
	nodes := []int{-1, 0, api.MaxNodes}
	for _, s := range run {
		nodes = append(nodes, s.Event.Node, s.Event.Node+1)
	}
	for _, n := range nodes {
		if got, want := runText(Project(run, n)), runText(definedProject(run, n)); got != want {
			t.Fatalf("node %d has\n%s\nwant\n%s\nin the run\n%s", n, got, want, runText(run))
		}
	}
	if got, want := runText(Observable(run)), runText(definedObservable(run)); got != want {
		t.Fatalf("observable are\n%s\nwant\n%s\nin the run\n%s", got, want, runText(run))
	}
}

// checkNormal compares the normal form and the key of a run with those that are expected.
func checkNormal(t *testing.T, run, want []api.Step) {
	t.Helper()
	if got := Normal(run); runText(got) != runText(want) {
		t.Fatalf("the normal form is\n%s\nwant\n%s\nof the run\n%s", runText(got), runText(want), runText(run))
	}
	if got, want := Key(run), definedKey(want); got != want {
		t.Fatalf("the key is %d, want %d, of the run\n%s", got, want, runText(run))
	}
}

// checkRun compares the results of all functions for a short run with the definitions, and returns its class.
func checkRun(t *testing.T, run []api.Step) map[string][]api.Step {
	t.Helper()
	class := definedClass(run)
	checkNormal(t, run, definedNormal(t, class))
	checkProjections(t, run)
	return class
}

// checkEquivalent compares whether two runs are equivalent, in both orders, with what is expected.
func checkEquivalent(t *testing.T, a, b []api.Step, want bool) {
	t.Helper()
	if Equivalent(a, b) != want || Equivalent(b, a) != want {
		t.Fatalf("%t and %t, want %t, for the runs\n%s\nand\n%s", Equivalent(a, b), Equivalent(b, a), want, runText(a), runText(b))
	}
}

// checkClasses compares the classes of some runs with those that are expected.
func checkClasses(t *testing.T, runs [][]api.Step, want [][]int) {
	t.Helper()
	if got := Classes(runs); !slices.EqualFunc(got, want, slices.Equal[[]int]) {
		t.Fatalf("the classes are %v, want %v", got, want)
	}
}
