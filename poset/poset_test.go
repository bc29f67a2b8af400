package poset

import (
	"math"
	"slices"
	"testing"

	"simproof/api"
)

// mustNew returns an order that has to exist.
func mustNew(t *testing.T, n int, pairs [][2]int) *Order {
	t.Helper()
	o, e := New(n, pairs)
	if e != api.OK || o == nil {
		t.Fatalf("New(%d, ..) with %d pairs: %v, error %d", n, len(pairs), o, e)
	}
	return o
}

// example returns the order of the chapter's example.
func example(t *testing.T) *Order {
	t.Helper()
	return mustNew(t, 4, [][2]int{{2, 0}, {0, 1}, {2, 1}})
}

// upTo returns the numbers from 0 to n - 1.
func upTo(n int) []int {
	l := make([]int, n)
	for i := range l {
		l[i] = i
	}
	return l
}

// chain returns the pairs of neighbours in a list.
func chain(l []int) [][2]int {
	var pairs [][2]int
	for i := 1; i < len(l); i++ {
		pairs = append(pairs, [2]int{l[i-1], l[i]})
	}
	return pairs
}

// P4.1: the errors, and which one is returned if several apply.
func TestNewErrors(t *testing.T) {
	for _, c := range []struct {
		n     int
		pairs [][2]int
		want  api.Errno
	}{
		{-1, nil, api.ErrArg},
		{math.MinInt, nil, api.ErrArg},
		{-1, [][2]int{{0, 0}, {-1, 7}}, api.ErrArg},
		{api.MaxSteps + 1, nil, api.ErrLimit},
		{math.MaxInt, nil, api.ErrLimit},
		{api.MaxSteps + 1, [][2]int{{1, 1}, {-1, 7}}, api.ErrLimit},

		{0, [][2]int{{0, 0}}, api.ErrRange},
		{1, [][2]int{{0, 1}}, api.ErrRange},
		{3, [][2]int{{3, 0}}, api.ErrRange},
		{3, [][2]int{{0, 3}}, api.ErrRange},
		{3, [][2]int{{-1, 0}}, api.ErrRange},
		{3, [][2]int{{0, -1}}, api.ErrRange},
		{3, [][2]int{{math.MaxInt, 0}}, api.ErrRange},
		{3, [][2]int{{0, math.MinInt}}, api.ErrRange},
		// 63 and 64 are not elements although a word has room for the first one.
		{63, [][2]int{{0, 63}}, api.ErrRange},
		{64, [][2]int{{64, 0}}, api.ErrRange},
		{api.MaxSteps, [][2]int{{0, api.MaxSteps}}, api.ErrRange},
		{3, [][2]int{{0, 1}, {1, 2}, {0, 3}}, api.ErrRange},
		// A cycle comes first in the list of pairs, but not in the list of errors.
		{3, [][2]int{{0, 0}, {0, 3}}, api.ErrRange},
		{3, [][2]int{{0, 3}, {1, 2}, {2, 1}}, api.ErrRange},

		{1, [][2]int{{0, 0}}, api.ErrCycle},
		{3, [][2]int{{0, 1}, {2, 2}}, api.ErrCycle},
		{2, [][2]int{{0, 1}, {1, 0}}, api.ErrCycle},
		{3, [][2]int{{0, 1}, {1, 2}, {2, 0}}, api.ErrCycle},
		{5, [][2]int{{0, 1}, {1, 2}, {2, 1}, {2, 3}}, api.ErrCycle},
		{100, [][2]int{{99, 64}, {64, 3}, {3, 99}}, api.ErrCycle},
		{api.MaxSteps, append(chain(upTo(api.MaxSteps)), [2]int{api.MaxSteps - 1, 0}), api.ErrCycle},

		{0, nil, api.OK},
		{1, nil, api.OK},
		{api.MaxSteps, nil, api.OK},
		{api.MaxSteps, [][2]int{{0, api.MaxSteps - 1}}, api.OK},
		{3, [][2]int{{0, 1}, {0, 1}, {1, 2}, {0, 2}}, api.OK},
	} {
		o, e := New(c.n, c.pairs)
		if e != c.want || (o == nil) != (e != api.OK) {
			t.Errorf("New(%d, %d): error %d, order %t, want error %d", c.n, c.pairs, e, o != nil, c.want)
		}
	}
}

// P4.1: Len returns the number of elements.
func TestLen(t *testing.T) {
	for _, n := range []int{0, 1, 2, 63, 64, 65, 1000, api.MaxSteps} {
		if got := mustNew(t, n, nil).Len(); got != n {
			t.Errorf("the order of length %d has %d elements", n, got)
		}
	}
}

// P4.1, P4.2: the order is the transitive closure of the pairs.
func TestLessAndConcurrent(t *testing.T) {
	// 3 < 1 < 5 < 0 and 3 < 4 < 0, and 2 apart
	o := mustNew(t, 6, [][2]int{{5, 0}, {3, 1}, {4, 0}, {1, 5}, {3, 4}, {1, 5}, {3, 0}})
	less := map[[2]int]bool{{3, 1}: true, {3, 5}: true, {3, 0}: true, {1, 5}: true, {1, 0}: true, {5, 0}: true, {3, 4}: true, {4, 0}: true}
	concurrent := map[[2]int]bool{{4, 1}: true, {4, 5}: true, {2, 0}: true, {2, 1}: true, {2, 3}: true, {2, 4}: true, {2, 5}: true}
	for a := range 6 {
		for b := range 6 {
			if got := o.Less(a, b); got != less[[2]int{a, b}] {
				t.Errorf("Less(%d, %d): %t", a, b, got)
			}
			if got := o.Concurrent(a, b); got != (concurrent[[2]int{a, b}] || concurrent[[2]int{b, a}]) {
				t.Errorf("Concurrent(%d, %d): %t", a, b, got)
			}
		}
	}
}

// P4.2: both are false if a number is not an element.
func TestLessAndConcurrentWithoutElements(t *testing.T) {
	for _, n := range []int{0, 1, 3, 63, 64, 65} {
		o := mustNew(t, n, chain(upTo(n)))
		for _, a := range []int{math.MinInt, -65, -64, -1, n, n + 1, n + 64, math.MaxInt} {
			for _, b := range []int{a, a - 1, a + 1, 0, n - 1, -1, n} {
				if o.Less(a, b) || o.Less(b, a) || o.Concurrent(a, b) || o.Concurrent(b, a) {
					t.Errorf("%d and %d are compared in an order of length %d", a, b, n)
				}
			}
		}
	}
	// Neither is an element concurrent with something else where all elements are concurrent.
	o := mustNew(t, 3, nil)
	if o.Concurrent(0, 3) || o.Concurrent(-1, 0) || o.Concurrent(1, 1) || !o.Concurrent(0, 2) {
		t.Error("Concurrent in an antichain")
	}
}

// P4.3: the covers, in lexicographic order.
func TestCovers(t *testing.T) {
	for _, c := range []struct {
		n           int
		pairs, want [][2]int
	}{
		{0, nil, nil},
		{1, nil, nil},
		{4, nil, nil},
		{4, [][2]int{{2, 0}, {0, 1}, {2, 1}}, [][2]int{{0, 1}, {2, 0}}},
		// Pairs that follow from others, in every order, and repetitions.
		{3, [][2]int{{0, 2}, {0, 1}, {1, 2}}, [][2]int{{0, 1}, {1, 2}}},
		{3, [][2]int{{2, 0}, {2, 1}, {1, 0}, {2, 0}}, [][2]int{{1, 0}, {2, 1}}},
		{4, [][2]int{{3, 0}, {3, 1}, {3, 2}, {2, 0}, {2, 1}, {1, 0}}, [][2]int{{1, 0}, {2, 1}, {3, 2}}},
		// The smallest element above another one need not cover it.
		{4, [][2]int{{1, 3}, {3, 0}, {1, 2}, {2, 0}, {1, 0}}, [][2]int{{1, 2}, {1, 3}, {2, 0}, {3, 0}}},
		{5, [][2]int{{4, 0}, {4, 3}, {3, 1}, {1, 0}, {4, 2}}, [][2]int{{1, 0}, {3, 1}, {4, 2}, {4, 3}}},
		{5, [][2]int{{0, 4}, {0, 3}, {0, 2}, {1, 2}, {1, 3}}, [][2]int{{0, 2}, {0, 3}, {0, 4}, {1, 2}, {1, 3}}},
	} {
		if got := mustNew(t, c.n, c.pairs).Covers(); !slices.Equal(got, c.want) {
			t.Errorf("the covers of %d elements with %d: %d, want %d", c.n, c.pairs, got, c.want)
		}
	}
}

// P4.4: the least linear extension.
func TestLinear(t *testing.T) {
	for _, c := range []struct {
		n     int
		pairs [][2]int
		want  []int
	}{
		{0, nil, nil},
		{1, nil, []int{0}},
		{4, nil, []int{0, 1, 2, 3}},
		{4, [][2]int{{2, 0}, {0, 1}, {2, 1}}, []int{2, 0, 1, 3}},
		{2, [][2]int{{1, 0}}, []int{1, 0}},
		// Elements become possible in another order than they are taken.
		{5, [][2]int{{4, 0}, {0, 3}, {4, 1}}, []int{2, 4, 0, 1, 3}},
		{6, [][2]int{{5, 0}, {4, 1}, {3, 2}}, []int{3, 2, 4, 1, 5, 0}},
		{6, [][2]int{{1, 5}, {0, 4}, {4, 2}, {5, 2}, {2, 3}}, []int{0, 1, 4, 5, 2, 3}},
		{4, [][2]int{{3, 2}, {2, 1}, {1, 0}, {3, 0}}, []int{3, 2, 1, 0}},
	} {
		if got := mustNew(t, c.n, c.pairs).Linear(); !slices.Equal(got, c.want) {
			t.Errorf("the least extension of %d elements with %d: %d, want %d", c.n, c.pairs, got, c.want)
		}
	}
}

// P4.4: which lists are linear extensions.
func TestIsLinear(t *testing.T) {
	o := example(t)
	for _, c := range []struct {
		l    []int
		want bool
	}{
		{[]int{2, 0, 1, 3}, true},
		{[]int{2, 0, 3, 1}, true},
		{[]int{2, 3, 0, 1}, true},
		{[]int{3, 2, 0, 1}, true},

		{[]int{0, 2, 1, 3}, false},
		{[]int{2, 1, 0, 3}, false},
		{[]int{1, 3, 0, 2}, false},
		// 2 is less than 1, but does not cover it.
		{[]int{0, 1, 2, 3}, false},

		{nil, false},
		{[]int{2}, false},
		{[]int{2, 0, 1}, false},
		{[]int{2, 0, 3}, false},
		{[]int{2, 0, 1, 3, 3}, false},
		{[]int{2, 0, 1, 3, 4}, false},
		{[]int{2, 2, 0, 1}, false},
		{[]int{2, 0, 1, 1}, false},
		{[]int{2, 0, 1, 4}, false},
		{[]int{-1, 2, 0, 1}, false},
		{[]int{2, 0, 1, 64}, false},
		{[]int{2, 0, 1, math.MaxInt}, false},
		{[]int{math.MinInt, 2, 0, 1}, false},
	} {
		if got := o.IsLinear(c.l); got != c.want {
			t.Errorf("IsLinear(%d): %t", c.l, got)
		}
	}
	empty := mustNew(t, 0, nil)
	if !empty.IsLinear(nil) || !empty.IsLinear([]int{}) || empty.IsLinear([]int{0}) {
		t.Error("the only linear extension of the empty order is the empty list")
	}
}

// P4.5: the number of linear extensions, up to a bound.
func TestExtensions(t *testing.T) {
	for _, c := range []struct {
		n     int
		pairs [][2]int
		want  int
	}{
		{0, nil, 1},
		{1, nil, 1},
		{2, nil, 2},
		{2, [][2]int{{1, 0}}, 1},
		{4, [][2]int{{2, 0}, {0, 1}, {2, 1}}, 4},
		{5, [][2]int{{0, 2}, {2, 4}, {1, 2}, {1, 3}}, 7},
		{6, nil, 720},
		{6, [][2]int{{0, 1}, {2, 3}, {4, 5}}, 90},
		{6, [][2]int{{5, 4}, {4, 3}, {2, 1}, {1, 0}}, 20},
		{9, nil, 362880},
		// The elements of a path that alternately rise and fall
		{7, [][2]int{{0, 1}, {2, 1}, {2, 3}, {4, 3}, {4, 5}, {6, 5}}, 272},
	} {
		o := mustNew(t, c.n, c.pairs)
		for _, most := range []int{math.MinInt, -c.want, -1, 0, 1, 2, c.want - 1, c.want, c.want + 1, 2 * c.want, 1 << 20} {
			if got, want := o.Extensions(most), max(0, min(most, c.want)); got != want {
				t.Errorf("Extensions(%d) of %d elements with %d: %d, want %d", most, c.n, c.pairs, got, want)
			}
		}
	}
}

// P4.6: the elements of a list and those less than them, in increasing order.
func TestDown(t *testing.T) {
	o := mustNew(t, 6, [][2]int{{5, 0}, {3, 1}, {4, 0}, {1, 5}, {3, 4}})
	for _, c := range []struct {
		l, want []int
	}{
		{nil, nil},
		{[]int{}, nil},
		{[]int{0}, []int{0, 1, 3, 4, 5}},
		{[]int{1}, []int{1, 3}},
		{[]int{2}, []int{2}},
		{[]int{3}, []int{3}},
		{[]int{4}, []int{3, 4}},
		{[]int{5}, []int{1, 3, 5}},
		{[]int{5, 4}, []int{1, 3, 4, 5}},
		{[]int{4, 2, 4, 3, 2}, []int{2, 3, 4}},
		{[]int{2, 0}, []int{0, 1, 2, 3, 4, 5}},

		// Members that are not elements.
		{[]int{6}, nil},
		{[]int{-1, 63, 64}, nil},
		{[]int{math.MaxInt, 4, math.MinInt}, []int{3, 4}},
		{[]int{6, 2, -1, 1, 100}, []int{1, 2, 3}},
	} {
		if got := o.Down(c.l); !slices.Equal(got, c.want) {
			t.Errorf("Down(%d): %d, want %d", c.l, got, c.want)
		}
	}
	if got := example(t).Down([]int{1}); !slices.Equal(got, []int{0, 1, 2}) {
		t.Errorf("Down of the example: %d", got)
	}
	if got := mustNew(t, 0, nil).Down([]int{0, -1}); len(got) != 0 {
		t.Errorf("Down of the empty order: %d", got)
	}
}

// R1: as many elements as an order can have, one after the other, in both directions.
func TestLongestChains(t *testing.T) {
	const n = api.MaxSteps
	for _, down := range []bool{false, true} {
		list := upTo(n)
		if down {
			slices.Reverse(list)
		}
		o := mustNew(t, n, chain(list))
		want := chain(list)
		slices.SortFunc(want, func(p, q [2]int) int { return p[0] - q[0] })
		if got := o.Covers(); !slices.Equal(got, want) {
			t.Errorf("downward %t: the covers are %d pairs", down, len(got))
		}
		if !slices.Equal(o.Linear(), list) || !o.IsLinear(list) || o.Extensions(1<<20) != 1 {
			t.Errorf("downward %t: there is one linear extension", down)
		}
		first, last := list[0], list[n-1]
		if !o.Less(first, last) || o.Less(last, first) || o.Concurrent(first, last) {
			t.Errorf("downward %t: the first element is less than the last one", down)
		}
		if got := o.Down([]int{last}); !slices.Equal(got, upTo(n)) {
			t.Errorf("downward %t: Down of the last element has %d elements", down, len(got))
		}
	}
}

// R1: the most pairs that are no cycle, and as many elements as an order can have without any.
func TestMostAndFewestPairs(t *testing.T) {
	const n = api.MaxSteps
	pairs := make([][2]int, 0, n*n/2)
	for a := range n {
		for b := range a {
			pairs = append(pairs, [2]int{b, a})
		}
	}
	o := mustNew(t, n, pairs)
	if !slices.Equal(o.Covers(), chain(upTo(n))) || !slices.Equal(o.Linear(), upTo(n)) || o.Extensions(2) != 1 {
		t.Error("all pairs of smaller and greater numbers are the usual order")
	}
	o = mustNew(t, n, nil)
	if len(o.Covers()) != 0 || !slices.Equal(o.Linear(), upTo(n)) || o.Extensions(1<<20) != 1<<20 || len(o.Down([]int{7})) != 1 {
		t.Error("without pairs all elements are concurrent")
	}
}

// R1: few elements beside a chain of as many as possible, with the smallest numbers or the greatest ones.
func TestExtensionsOfLongOrders(t *testing.T) {
	const n = api.MaxSteps
	for beside, want := range []int{1, n, 1 << 20, 1 << 20} {
		for _, l := range [][]int{upTo(n)[beside:], upTo(n - beside)} {
			if got := mustNew(t, n, chain(l)).Extensions(1 << 20); got != want {
				t.Errorf("%d elements beside a chain from %d: %d, want %d", beside, l[0], got, want)
			}
		}
	}
}

// R4: nil and empty slices are equivalent.
func TestNilAndEmptySlices(t *testing.T) {
	for _, pairs := range [][][2]int{nil, {}} {
		o := mustNew(t, 2, pairs)
		if !o.Concurrent(0, 1) || len(o.Covers()) != 0 || o.Extensions(9) != 2 {
			t.Errorf("the order of no pairs: %v", o)
		}
		for _, l := range [][]int{nil, {}} {
			if o.IsLinear(l) || len(o.Down(l)) != 0 {
				t.Errorf("an empty list is taken for something else")
			}
		}
	}
}

// R4: arguments are not modified, not even beyond their length, and what lies there does not matter.
func TestArgumentsAreNotModified(t *testing.T) {
	pairs := [][2]int{{4, 1}, {4, 1}, {3, 2}, {1, 0}, {5, 4}, {2, 0}, {9, -9}, {0, 0}}
	list := []int{3, 2, 5, 4, 1, 0, -1, 77, 3}
	wantPairs, wantList := slices.Clone(pairs), slices.Clone(list)
	for m := range 7 {
		o, same := mustNew(t, 6, pairs[:m]), mustNew(t, 6, slices.Clip(slices.Clone(pairs[:m])))
		if !slices.Equal(o.Covers(), same.Covers()) {
			t.Errorf("with spare capacity the covers are %d, want %d", o.Covers(), same.Covers())
		}
		for i := range len(list) + 1 {
			l := slices.Clip(slices.Clone(list[:i]))
			if o.IsLinear(list[:i]) != (i == 6) || !slices.Equal(o.Down(list[:i]), o.Down(l)) {
				t.Errorf("the list %d has other results with spare capacity", l)
			}
		}
	}
	if !slices.Equal(pairs, wantPairs) || !slices.Equal(list, wantList) {
		t.Errorf("the arguments became %d and %d", pairs, list)
	}
}

// R4: an order does not keep its argument, and results are newly allocated.
func TestResultsAreNew(t *testing.T) {
	pairs := [][2]int{{2, 0}, {0, 1}, {2, 1}}
	o := mustNew(t, 4, pairs)
	clear(pairs)
	for range 2 {
		covers, linear, down := o.Covers(), o.Linear(), o.Down([]int{1, 3})
		if !slices.Equal(covers, [][2]int{{0, 1}, {2, 0}}) || !slices.Equal(linear, []int{2, 0, 1, 3}) || !slices.Equal(down, upTo(4)) {
			t.Fatalf("after writes to other slices: %d, %d, %d", covers, linear, down)
		}
		if o.Extensions(100) != 4 || !o.Less(2, 1) || o.Less(0, 3) || o.Len() != 4 {
			t.Fatal("the order has changed")
		}
		clear(covers[:cap(covers)])
		clear(linear[:cap(linear)])
		clear(down[:cap(down)])
	}
}
