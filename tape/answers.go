package tape

import (
	"maps"
	"slices"

	"simproof/api"
	"simproof/names"
)

// answers holds the positive answers. A question without one is answered with 0, so that tapes with the same answers have the same map.
type answers map[api.Question]int

// collect returns the answers of a list, in which a later one replaces those before it.
func collect(list []api.Answer) answers {
	m := answers{}
	for _, a := range list {
		m.set(a.Q, a.N)
	}
	return m
}

// set answers a question.
func (m answers) set(q api.Question, n int) {
	if n > 0 {
		m[q] = n
	} else {
		delete(m, q)
	}
}

// tape returns the normal tape of some events and the answers.
func (m answers) tape(events []api.Event) api.Tape {
	t := api.Tape{Events: slices.Clone(events)}
	for _, q := range slices.SortedFunc(maps.Keys(m), names.CompareQuestion) {
		t.Answers = append(t.Answers, api.Answer{Q: q, N: m[q]})
	}
	return t
}

// without returns the elements of a list without those whose numbers are left out. The numbers count from first on.
func without[T any](list []T, first int, out map[int]bool) []T {
	var kept []T
	for i, e := range list {
		if !out[first+i] {
			kept = append(kept, e)
		}
	}
	return kept
}
