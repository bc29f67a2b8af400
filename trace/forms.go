package trace

import "simproof/api"

// forms numbers normal forms from 0, in the order in which they are first seen.
type forms struct {
	list  [][]api.Step
	byKey map[uint64][]int // the numbers of the normal forms with a key
}

// newForms returns a numbering that has not seen any normal form.
func newForms() *forms { return &forms{byKey: map[uint64][]int{}} }

// number returns the number of a normal form.
func (f *forms) number(form []api.Step) int {
	key := keyOf(form)
	for _, n := range f.byKey[key] {
		// Different normal forms can have the same key.
		if equal(f.list[n], form) {
			return n
		}
	}
	n := len(f.list)
	f.list = append(f.list, form)
	f.byKey[key] = append(f.byKey[key], n)
	return n
}
