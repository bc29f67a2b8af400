package trace

import (
	"slices"

	"simproof/api"
	"simproof/depend"
	"simproof/names"
	"simproof/poset"
)

// normal returns the normal form of a run. Its steps share their lists with those of the run.
func normal(run []api.Step) []api.Step {
	list := ranking(run)
	rank := make([]int, len(run))
	for r, i := range list {
		rank[i] = r
	}
	var pairs [][2]int
	for _, p := range depend.Order(run).Covers() {
		pairs = append(pairs, [2]int{rank[p[0]], rank[p[1]]})
	}
	order, e := poset.New(len(run), pairs)
	if e != api.OK {
		return run // There are no orders of that length, and the chapter excludes it.
	}
	form := make([]api.Step, 0, len(run))
	// A least linear extension takes the least element that can be next each time, which is the least step because the elements are ranks.
	for _, r := range order.Linear() {
		form = append(form, run[list[r]])
	}
	return form
}

// ranking returns the positions of a run in the order of their steps.
func ranking(run []api.Step) []int {
	list := make([]int, len(run))
	for i := range list {
		list[i] = i
	}
	// Steps that compare as 0 are of one node, so that their positions decide in any case.
	slices.SortStableFunc(list, func(i, k int) int { return names.CompareStep(run[i], run[k]) })
	return list
}

// equal reports whether two runs have equal steps.
func equal(a, b []api.Step) bool {
	return slices.EqualFunc(a, b, func(s, t api.Step) bool {
		return s.Event == t.Event && s.Observable == t.Observable && slices.Equal(s.Asks, t.Asks) && slices.Equal(s.Sent, t.Sent)
	})
}

// copyOf returns a run that shares no memory with another one, and has the same steps.
func copyOf(run []api.Step) []api.Step {
	l := slices.Clone(run)
	for i, s := range l {
		l[i].Asks, l[i].Sent = slices.Clone(s.Asks), slices.Clone(s.Sent)
	}
	return l
}
