package poset

import (
	"math/rand"
	"slices"
	"testing"

	"simproof/api"
)

// relation says which elements are less than which ones.
type relation [][]bool

// closure returns the transitive closure of some pairs.
func closure(n int, pairs [][2]int) relation {
	r := make(relation, n)
	for a := range r {
		r[a] = make([]bool, n)
	}
	for _, p := range pairs {
		r[p[0]][p[1]] = true
	}
	for c := range n {
		for a := range n {
			for b := range n {
				r[a][b] = r[a][b] || r[a][c] && r[c][b]
			}
		}
	}
	return r
}

// isCyclic reports whether an element is less than itself.
func (r relation) isCyclic() bool {
	for a := range r {
		if r[a][a] {
			return true
		}
	}
	return false
}

// covers returns the pairs without an element in between.
func (r relation) covers() [][2]int {
	var pairs [][2]int
	for a := range r {
		for b := range r {
			between := false
			for c := range r {
				between = between || r[a][c] && r[c][b]
			}
			if r[a][b] && !between {
				pairs = append(pairs, [2]int{a, b})
			}
		}
	}
	return pairs
}

// isLinear reports whether a list of all elements is a linear extension.
func (r relation) isLinear(l []int) bool {
	for i, b := range l {
		for _, a := range l[:i] {
			if r[b][a] {
				return false
			}
		}
	}
	return true
}

// linear takes the smallest element that no other one is less than, again and again.
func (r relation) linear() []int {
	var l []int
	for len(l) < len(r) {
		for b := range r {
			if slices.Contains(l, b) {
				continue
			}
			waits := false
			for a := range r {
				waits = waits || r[a][b] && !slices.Contains(l, a)
			}
			if !waits {
				l = append(l, b)
				break
			}
		}
	}
	return l
}

// extensions counts the linear extensions of at most 20 elements, set by set: those of a set end with one of its elements that is less than none of its others.
func (r relation) extensions() int {
	counts := make([]int, 1<<len(r))
	counts[0] = 1
	for s := 1; s < len(counts); s++ {
		for b := range r {
			isLast := s>>b&1 == 1
			for a := range r {
				isLast = isLast && !(s>>a&1 == 1 && r[b][a])
			}
			if isLast {
				counts[s] += counts[s^1<<b]
			}
		}
	}
	return counts[len(counts)-1]
}

// down returns the elements that are in a list or less than one in it.
func (r relation) down(l []int) []int {
	var all []int
	for a := range r {
		if slices.ContainsFunc(l, func(b int) bool { return a == b || b >= 0 && b < len(r) && r[a][b] }) {
			all = append(all, a)
		}
	}
	return all
}

// lists returns all lists that contain each number from 0 to n - 1 once, in lexicographic order.
func lists(n int) [][]int {
	all := [][]int{nil}
	for range n {
		var longer [][]int
		for _, l := range all {
			for a := range n {
				if !slices.Contains(l, a) {
					longer = append(longer, append(slices.Clone(l), a))
				}
			}
		}
		all = longer
	}
	return all
}

// checkPairs compares Less, Concurrent and Covers with a relation.
func checkPairs(t *testing.T, o *Order, want relation) {
	t.Helper()
	n := len(want)
	for a := range n {
		for b := range n {
			if got := o.Less(a, b); got != want[a][b] {
				t.Fatalf("order %v: Less(%d, %d): %t", want, a, b, got)
			}
			if got := o.Concurrent(a, b); got != (a != b && !want[a][b] && !want[b][a]) {
				t.Fatalf("order %v: Concurrent(%d, %d): %t", want, a, b, got)
			}
		}
	}
	if got, want := o.Covers(), want.covers(); !slices.Equal(got, want) {
		t.Fatalf("the covers are %d, want %d", got, want)
	}
}

// someList returns a random list of ints, most of which are elements.
func someList(r *rand.Rand, n int) []int {
	var l []int
	for range r.Intn(5) {
		l = append(l, r.Intn(n+4)-2)
	}
	return l
}

// somePairs returns random pairs, with repetitions, that have no cycle. The numbers of the elements say nothing about the order.
func somePairs(r *rand.Rand, n, count int) [][2]int {
	list := r.Perm(n)
	var pairs [][2]int
	for range count {
		i, j := r.Intn(n), r.Intn(n)
		if i != j {
			pairs = append(pairs, [2]int{list[min(i, j)], list[max(i, j)]})
		}
	}
	return pairs
}

// someOrder returns a random order of at most most elements, and pairs of which it is the closure.
func someOrder(t *testing.T, r *rand.Rand, most int) (*Order, [][2]int) {
	t.Helper()
	n := 1 + r.Intn(most)
	pairs := somePairs(r, n, r.Intn(3*n))
	return mustNew(t, n, pairs), pairs
}

// someExtension returns a random linear extension.
func someExtension(r *rand.Rand, o *Order) []int {
	var l []int
	for left := r.Perm(o.Len()); len(left) > 0; {
		i := slices.IndexFunc(left, func(b int) bool {
			return !slices.ContainsFunc(left, func(a int) bool { return o.Less(a, b) })
		})
		l = append(l, left[i])
		left = slices.Delete(left, i, i+1)
		r.Shuffle(len(left), func(i, j int) { left[i], left[j] = left[j], left[i] })
	}
	return l
}

// P4.1 to P4.6: all sets of pairs of at most four elements.
func TestAllSmallOrders(t *testing.T) {
	orders := 0
	for n := range 5 {
		all := lists(n)
		for bits := range 1 << (n * n) {
			var pairs [][2]int
			for i := range n * n {
				if bits>>i&1 == 1 {
					pairs = append(pairs, [2]int{i / n, i % n})
				}
			}
			want := closure(n, pairs)
			if want.isCyclic() {
				if o, e := New(n, pairs); o != nil || e != api.ErrCycle {
					t.Fatalf("New(%d, %d): error %d, want %d", n, pairs, e, api.ErrCycle)
				}
				continue
			}
			orders++
			checkSmallOrder(t, mustNew(t, n, pairs), want, all)
		}
	}
	// The numbers of acyclic sets of pairs of 0 to 4 elements
	if want := 1 + 1 + 3 + 25 + 543; orders != want {
		t.Errorf("there are %d sets of pairs without a cycle, want %d", orders, want)
	}
}

// checkSmallOrder tries all lists that contain each element once, and all lists of two numbers.
func checkSmallOrder(t *testing.T, o *Order, want relation, all [][]int) {
	t.Helper()
	checkPairs(t, o, want)
	var linear [][]int
	for _, l := range all {
		if want.isLinear(l) {
			linear = append(linear, l)
		}
		if got := o.IsLinear(l); got != want.isLinear(l) {
			t.Fatalf("order %v: IsLinear(%d): %t", want, l, got)
		}
	}
	if got := o.Linear(); !slices.Equal(got, linear[0]) {
		t.Fatalf("order %v: the least extension is %d, want %d", want, got, linear[0])
	}
	for most := -1; most <= len(linear)+1; most++ {
		if got := o.Extensions(most); got != max(0, min(most, len(linear))) {
			t.Fatalf("order %v: Extensions(%d): %d of %d", want, most, got, len(linear))
		}
	}
	for a := -1; a <= len(want); a++ {
		for b := -1; b <= len(want); b++ {
			if got, want := o.Down([]int{a, b}), want.down([]int{a, b}); !slices.Equal(got, want) {
				t.Fatalf("Down of %d and %d: %d, want %d", a, b, got, want)
			}
		}
	}
}

// P4.4, P4.5: random orders whose extensions can be counted in another way.
func TestNumbersOfExtensions(t *testing.T) {
	r := rand.New(rand.NewSource(1))
	counts := map[int]bool{}
	for range 300 {
		o, pairs := someOrder(t, r, 10)
		want := closure(o.Len(), pairs).extensions()
		for _, most := range []int{1 << 20, want - 1, want/2 + 1, r.Intn(want + 1)} {
			if got := o.Extensions(most); got != min(most, want) {
				t.Fatalf("order of %d: Extensions(%d): %d of %d", pairs, most, got, want)
			}
		}
		counts[want] = true
	}
	if len(counts) < 100 {
		t.Errorf("the orders have only %d numbers of extensions", len(counts))
	}
}

// P4.5: orders made of blocks, whose numbers of extensions are known, with random numbers for the elements.
func TestExtensionsOfBlocks(t *testing.T) {
	r := rand.New(rand.NewSource(2))
	for _, c := range []struct {
		widths []int // the elements of each block are concurrent, and greater than those of the block before
		want   int
	}{
		{[]int{3, 1, 4}, 144},
		{[]int{1, 9, 1}, 362880},
		{slices.Repeat([]int{1, 2}, 19), 1 << 19},
		{slices.Repeat([]int{2}, 20), 1 << 20},
		{slices.Repeat([]int{2}, 100), 1 << 20},
		{slices.Repeat([]int{1}, 200), 1},
		{append(slices.Repeat([]int{1}, 300), 6, 2), 1440},
		{append([]int{6, 2}, slices.Repeat([]int{1}, 300)...), 1440},
		{[]int{7, 7}, 1 << 20},
		{[]int{300}, 1 << 20},
	} {
		n := 0
		for _, w := range c.widths {
			n += w
		}
		number := r.Perm(n)
		var pairs [][2]int
		before, start := 0, 0
		for _, w := range c.widths {
			for i := start; i < start+w; i++ {
				for j := start - before; j < start; j++ {
					pairs = append(pairs, [2]int{number[j], number[i]})
				}
			}
			before, start = w, start+w
		}
		o := mustNew(t, n, pairs)
		for _, most := range []int{1 << 20, c.want, c.want - 1, 1} {
			if got := o.Extensions(most); got != min(most, c.want) {
				t.Errorf("blocks %d: Extensions(%d): %d of %d", c.widths, most, got, c.want)
			}
		}
	}
}

// P4.5: two chains beside each other can be merged in as many ways as places can be chosen for the first one.
func TestExtensionsOfTwoChains(t *testing.T) {
	r := rand.New(rand.NewSource(3))
	for _, c := range []struct{ first, second, want int }{
		{1, 200, 201},
		{2, 200, 20301},
		{3, 150, 585276},
		{4, 60, 635376},
		{10, 10, 184756},
		{11, 11, 705432},
		{12, 12, 1 << 20},
		{70, 70, 1 << 20},
	} {
		list := r.Perm(c.first + c.second)
		pairs := append(chain(list[:c.first]), chain(list[c.first:])...)
		if got := mustNew(t, len(list), pairs).Extensions(1 << 20); got != c.want {
			t.Errorf("chains of %d and %d: %d, want %d", c.first, c.second, got, c.want)
		}
	}
}

// P4.1 to P4.6: larger orders, with few and many pairs.
func TestLargerOrders(t *testing.T) {
	r := rand.New(rand.NewSource(4))
	for i := range 100 {
		n := 1 + r.Intn(140)
		count := r.Intn(3 * n)
		if i%2 == 0 {
			count = r.Intn(n * n)
		}
		pairs := somePairs(r, n, count)
		o, want := mustNew(t, n, pairs), closure(n, pairs)
		checkPairs(t, o, want)
		if got, want := o.Linear(), want.linear(); !slices.Equal(got, want) {
			t.Fatalf("order of %d: the least extension is %d, want %d", pairs, got, want)
		}
		for range 10 {
			l := someList(r, n)
			if got, want := o.Down(l), want.down(l); !slices.Equal(got, want) {
				t.Fatalf("order of %d: Down(%d): %d, want %d", pairs, l, got, want)
			}
			l = r.Perm(n)
			if got := o.IsLinear(l); got != want.isLinear(l) {
				t.Fatalf("order of %d: IsLinear(%d): %t", pairs, l, got)
			}
		}
	}
}

// P4.1: a pair against the order makes a cycle, and one along it does not.
func TestAddedPairs(t *testing.T) {
	r := rand.New(rand.NewSource(5))
	for range 500 {
		o, pairs := someOrder(t, r, 100)
		a, b := r.Intn(o.Len()), r.Intn(o.Len())
		more := append(slices.Clone(pairs), [2]int{a, b})
		r.Shuffle(len(more), func(i, j int) { more[i], more[j] = more[j], more[i] })
		p, e := New(o.Len(), more)
		if cyclic := a == b || o.Less(b, a); cyclic != (e == api.ErrCycle) || cyclic != (p == nil) {
			t.Fatalf("order of %d: error %d after the pair (%d, %d)", pairs, e, a, b)
		}
	}
}

// P4.7: the order is irreflexive, asymmetric and transitive.
func TestLessIsAnOrder(t *testing.T) {
	r := rand.New(rand.NewSource(6))
	for range 100 {
		o, pairs := someOrder(t, r, 25)
		for a := range o.Len() {
			if o.Less(a, a) {
				t.Fatalf("order of %d: %d is less than itself", pairs, a)
			}
			for b := range o.Len() {
				if o.Less(a, b) && o.Less(b, a) {
					t.Fatalf("order of %d: %d and %d are less than each other", pairs, a, b)
				}
				for c := range o.Len() {
					if o.Less(a, b) && o.Less(b, c) && !o.Less(a, c) {
						t.Fatalf("order of %d: %d, %d, %d", pairs, a, b, c)
					}
				}
			}
		}
	}
}

// P4.7: the covers give the same order, and without one of them another one.
func TestOrderOfTheCovers(t *testing.T) {
	r := rand.New(rand.NewSource(7))
	for range 100 {
		o, pairs := someOrder(t, r, 30)
		covers := o.Covers()
		checkPairs(t, mustNew(t, o.Len(), covers), closure(o.Len(), pairs))
		for i, c := range covers {
			fewer := mustNew(t, o.Len(), slices.Delete(slices.Clone(covers), i, i+1))
			if fewer.Less(c[0], c[1]) || !o.Less(c[0], c[1]) {
				t.Fatalf("the cover %d follows from the other ones of %d", c, covers)
			}
		}
	}
}

// P4.8: adjacent elements of a linear extension can be exchanged if and only if they are concurrent.
func TestExchangedElements(t *testing.T) {
	r := rand.New(rand.NewSource(8))
	count := map[bool]int{}
	for range 200 {
		o, pairs := someOrder(t, r, 80)
		for _, l := range [][]int{o.Linear(), someExtension(r, o)} {
			if !o.IsLinear(l) {
				t.Fatalf("order of %d: %d is a linear extension", pairs, l)
			}
			for i := 1; i < len(l); i++ {
				l[i-1], l[i] = l[i], l[i-1]
				got, want := o.IsLinear(l), o.Concurrent(l[i], l[i-1])
				if got != want {
					t.Fatalf("order of %d: after an exchange IsLinear(%d): %t", pairs, l, got)
				}
				count[got]++
				l[i-1], l[i] = l[i], l[i-1]
			}
		}
	}
	if count[true] < 1000 || count[false] < 1000 {
		t.Errorf("the exchanges are one-sided: %v", count)
	}
}

// P4.9: Down is idempotent and monotone, and the union of two results is the result for the union.
func TestDownProperties(t *testing.T) {
	r := rand.New(rand.NewSource(9))
	for range 1000 {
		o, pairs := someOrder(t, r, 100)
		l, m := someList(r, o.Len()), someList(r, o.Len())
		downL, downM, both := o.Down(l), o.Down(m), o.Down(slices.Concat(l, m))
		if again := o.Down(downL); !slices.Equal(again, downL) {
			t.Fatalf("order of %d: Down(%d): %d, and Down of this: %d", pairs, l, downL, again)
		}
		union := slices.Concat(downM, downL)
		slices.Sort(union)
		if union = slices.Compact(union); !slices.Equal(both, union) {
			t.Fatalf("order of %d: Down of %d and %d: %d, want %d", pairs, l, m, both, union)
		}
		for _, a := range downL {
			if !slices.Contains(both, a) {
				t.Fatalf("order of %d: %d is in Down(%d), but not with %d", pairs, a, l, m)
			}
		}
	}
}

// R5: the order and the multiplicity of the pairs do not matter, and neither do calls made before.
func TestResultsDependOnThePairsAlone(t *testing.T) {
	r := rand.New(rand.NewSource(10))
	for range 200 {
		o, pairs := someOrder(t, r, 40)
		covers, linear, count := o.Covers(), o.Linear(), o.Extensions(1000)
		changed := slices.Clone(pairs)
		for range r.Intn(len(pairs) + 1) {
			changed = append(changed, pairs[r.Intn(len(pairs))])
		}
		r.Shuffle(len(changed), func(i, j int) { changed[i], changed[j] = changed[j], changed[i] })
		p := mustNew(t, o.Len(), changed)
		for _, q := range []*Order{o, p} {
			if q.Extensions(1000) != count || !slices.Equal(q.Linear(), linear) || !slices.Equal(q.Covers(), covers) {
				t.Fatalf("order of %d: %d, %d, %d extensions, want %d, %d, %d", changed, q.Covers(), q.Linear(), q.Extensions(1000), covers, linear, count)
			}
		}
	}
}
