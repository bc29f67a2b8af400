package names

import (
	"cmp"

	"simproof/api"
)

// pair is a number of one value and the corresponding number of another one.
type pair struct{ a, b int }

// compareNumbers compares two lists of numbers of the same length, whose elements are paired.
func compareNumbers(pairs ...pair) int {
	for _, p := range pairs {
		if c := cmp.Compare(p.a, p.b); c != 0 {
			return c
		}
	}
	return 0
}

// compareLists compares two lists by their first elements that differ. A proper prefix comes first.
func compareLists[T any](a, b []T, compare func(a, b T) int) int {
	for i := range min(len(a), len(b)) {
		if c := compare(a[i], b[i]); c != 0 {
			return c
		}
	}
	return cmp.Compare(len(a), len(b))
}

// compareCause compares two causes.
func compareCause(a, b api.Cause) int {
	return compareNumbers(pair{a.Node, b.Node}, pair{a.Handler, b.Handler}, pair{a.Count, b.Count})
}

// compareAsk compares two questions together with their answers.
func compareAsk(a, b api.Ask) int {
	return cmp.Or(CompareQuestion(a.Q, b.Q), cmp.Compare(a.N, b.N))
}
