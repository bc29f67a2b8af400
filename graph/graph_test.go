package graph

import (
	"math"
	"slices"
	"testing"
)

// P3.1: the least topological order.
func TestTopo(t *testing.T) {
	for _, c := range []struct {
		n     int
		edges [][2]int
		want  []int
		ok    bool
	}{
		{0, nil, nil, true},
		{1, nil, []int{0}, true},
		{4, nil, []int{0, 1, 2, 3}, true},
		{3, [][2]int{{2, 0}, {2, 1}}, []int{2, 0, 1}, true},
		{2, [][2]int{{1, 0}}, []int{1, 0}, true},
		// Vertices become ready in another order than they are taken.
		{5, [][2]int{{4, 0}, {0, 3}, {4, 1}}, []int{2, 4, 0, 1, 3}, true},
		{6, [][2]int{{5, 0}, {4, 1}, {3, 2}}, []int{3, 2, 4, 1, 5, 0}, true},
		{6, [][2]int{{1, 5}, {0, 4}, {4, 2}, {5, 2}, {2, 3}}, []int{0, 1, 4, 5, 2, 3}, true},
		{4, [][2]int{{0, 3}, {3, 1}, {1, 2}}, []int{0, 3, 1, 2}, true},
		{4, [][2]int{{3, 2}, {2, 1}, {1, 0}}, []int{3, 2, 1, 0}, true},
		// Edges that occur several times.
		{3, [][2]int{{2, 0}, {2, 1}, {2, 0}, {2, 0}}, []int{2, 0, 1}, true},
		{3, [][2]int{{1, 0}, {2, 0}, {1, 0}}, []int{1, 2, 0}, true},

		// Loops, cycles, and cycles with vertices outside them.
		{1, [][2]int{{0, 0}}, nil, false},
		{3, [][2]int{{0, 1}, {2, 2}}, nil, false},
		{2, [][2]int{{0, 1}, {1, 0}}, nil, false},
		{3, [][2]int{{0, 1}, {1, 2}, {2, 0}}, nil, false},
		{5, [][2]int{{0, 1}, {1, 2}, {2, 1}, {2, 3}}, nil, false},
		{5, [][2]int{{3, 4}, {4, 3}}, nil, false},
		{3, [][2]int{{0, 1}, {1, 0}, {0, 1}}, nil, false},
	} {
		if got, ok := Topo(c.n, c.edges); ok != c.ok || !slices.Equal(got, c.want) {
			t.Errorf("Topo(%d, %d): %d, %t, want %d, %t", c.n, c.edges, got, ok, c.want, c.ok)
		}
	}
}

// P3.2: the vertices that can be reached, those of from included.
func TestReach(t *testing.T) {
	edges := [][2]int{{0, 3}, {3, 5}, {5, 0}, {1, 2}, {2, 4}, {4, 4}, {3, 5}, {6, 5}}
	for _, c := range []struct {
		from, want []int
	}{
		{nil, nil},
		{[]int{}, nil},
		{[]int{7}, []int{7}},
		{[]int{0}, []int{0, 3, 5}},
		{[]int{5}, []int{0, 3, 5}},
		{[]int{6}, []int{0, 3, 5, 6}},
		{[]int{1}, []int{1, 2, 4}},
		{[]int{2}, []int{2, 4}},
		{[]int{4}, []int{4}},
		{[]int{7, 2, 5}, []int{0, 2, 3, 4, 5, 7}},
		{[]int{5, 3, 5, 0, 5}, []int{0, 3, 5}},
		{[]int{1, 6}, []int{0, 1, 2, 3, 4, 5, 6}},

		// Elements that are not vertices.
		{[]int{8}, nil},
		{[]int{-1}, nil},
		{[]int{math.MaxInt, 4, math.MinInt}, []int{4}},
		{[]int{-1, 2, 8, 9, 100000}, []int{2, 4}},
	} {
		if got := Reach(8, edges, c.from); !slices.Equal(got, c.want) {
			t.Errorf("Reach from %d: %d, want %d", c.from, got, c.want)
		}
	}
	for _, from := range [][]int{nil, {0}, {-1, 0, 1}} {
		if got := Reach(0, nil, from); len(got) != 0 {
			t.Errorf("Reach without vertices from %d: %d", from, got)
		}
	}
	if got := Reach(3, nil, []int{2, 0, 3}); !slices.Equal(got, []int{0, 2}) {
		t.Errorf("Reach without edges: %d", got)
	}
}

// P3.3: the least one of the shortest cycles that begin with their smallest vertices.
func TestCycle(t *testing.T) {
	for _, c := range []struct {
		n     int
		edges [][2]int
		want  []int
	}{
		{0, nil, nil},
		{1, nil, nil},
		{5, nil, nil},
		{2, [][2]int{{1, 0}}, nil},
		{4, [][2]int{{3, 1}, {1, 0}, {3, 0}, {0, 2}, {3, 1}}, nil},

		// A loop is shorter than any other cycle, and the smallest one is the least.
		{1, [][2]int{{0, 0}}, []int{0}},
		{3, [][2]int{{0, 1}, {1, 2}, {2, 0}, {1, 1}}, []int{1}},
		{5, [][2]int{{0, 1}, {1, 0}, {4, 4}, {2, 2}, {3, 3}}, []int{2}},

		// It begins with its smallest vertex, in the direction of its edges.
		{2, [][2]int{{1, 0}, {0, 1}}, []int{0, 1}},
		{3, [][2]int{{0, 2}, {2, 1}, {1, 0}}, []int{0, 2, 1}},
		{5, [][2]int{{3, 1}, {4, 3}, {1, 4}}, []int{1, 4, 3}},
		{5, [][2]int{{4, 3}, {3, 2}, {2, 1}, {1, 0}, {0, 4}}, []int{0, 4, 3, 2, 1}},

		// A shorter cycle is returned although a longer one is lexicographically less or shares vertices with it.
		{5, [][2]int{{0, 1}, {1, 2}, {2, 0}, {3, 4}, {4, 3}}, []int{3, 4}},
		{4, [][2]int{{0, 1}, {1, 2}, {2, 3}, {3, 0}, {3, 1}}, []int{1, 2, 3}},
		{4, [][2]int{{0, 1}, {1, 2}, {2, 3}, {3, 0}, {2, 0}}, []int{0, 1, 2}},

		// Several cycles of minimal length: with other beginnings, and with the same one.
		{6, [][2]int{{4, 5}, {5, 4}, {2, 3}, {3, 2}, {1, 5}, {5, 1}}, []int{1, 5}},
		{6, [][2]int{{0, 5}, {5, 0}, {0, 3}, {3, 0}, {0, 4}, {4, 0}}, []int{0, 3}},
		{6, [][2]int{{0, 1}, {1, 5}, {5, 0}, {1, 4}, {4, 0}, {0, 2}, {2, 3}, {3, 0}}, []int{0, 1, 4}},
		{6, [][2]int{{0, 2}, {2, 1}, {1, 0}, {0, 4}, {4, 3}, {3, 0}}, []int{0, 2, 1}},
		// A small second vertex does not lead back in time.
		{6, [][2]int{{0, 1}, {1, 2}, {2, 3}, {3, 0}, {0, 4}, {4, 5}, {5, 0}}, []int{0, 4, 5}},

		// Vertices outside the cycle, before it and behind it.
		{7, [][2]int{{0, 1}, {1, 3}, {3, 5}, {5, 3}, {5, 6}, {6, 2}, {0, 6}}, []int{3, 5}},
		// Edges that occur several times.
		{3, [][2]int{{1, 2}, {2, 1}, {1, 2}, {0, 1}, {0, 1}}, []int{1, 2}},
	} {
		if got := Cycle(c.n, c.edges); !slices.Equal(got, c.want) || (got == nil) != (c.want == nil) {
			t.Errorf("Cycle(%d, %d): %d, want %d", c.n, c.edges, got, c.want)
		}
	}
}

// P3.3: every vertex may be on the cycle, at every place.
func TestCycleOfAnyVertices(t *testing.T) {
	const n = 140
	for a := range n {
		for b := a; b < n; b++ {
			want := slices.Compact([]int{a, b})
			if got := Cycle(n, [][2]int{{b, a}, {a, b}}); !slices.Equal(got, want) {
				t.Fatalf("the cycle of %d and %d: %d", a, b, got)
			}
		}
	}
}

// P3.4: the strongly connected components, in order.
func TestComponents(t *testing.T) {
	for _, c := range []struct {
		n     int
		edges [][2]int
		want  [][]int
	}{
		{0, nil, nil},
		{1, nil, [][]int{{0}}},
		{3, nil, [][]int{{0}, {1}, {2}}},
		{1, [][2]int{{0, 0}}, [][]int{{0}}},
		{3, [][2]int{{0, 1}, {1, 2}, {0, 2}}, [][]int{{0}, {1}, {2}}},
		{3, [][2]int{{2, 1}, {1, 0}, {2, 1}}, [][]int{{0}, {1}, {2}}},
		{2, [][2]int{{1, 0}, {0, 1}}, [][]int{{0, 1}}},
		{4, [][2]int{{3, 1}, {1, 2}, {2, 3}}, [][]int{{0}, {1, 2, 3}}},
		// Components that are interleaved, joined in one direction only.
		{6, [][2]int{{5, 1}, {1, 5}, {0, 4}, {4, 0}, {4, 5}, {5, 3}, {2, 2}}, [][]int{{0, 4}, {1, 5}, {2}, {3}}},
		{6, [][2]int{{5, 0}, {0, 3}, {3, 5}, {4, 1}, {1, 2}, {2, 4}, {2, 0}}, [][]int{{0, 3, 5}, {1, 2, 4}}},
		// Two cycles with a common vertex are one component.
		{5, [][2]int{{4, 2}, {2, 4}, {2, 0}, {0, 2}, {3, 1}}, [][]int{{0, 2, 4}, {1}, {3}}},
		{5, [][2]int{{0, 1}, {1, 2}, {2, 3}, {3, 1}, {3, 4}}, [][]int{{0}, {1, 2, 3}, {4}}},
	} {
		if got := Components(c.n, c.edges); !equalLists(got, c.want) {
			t.Errorf("Components(%d, %d): %d, want %d", c.n, c.edges, got, c.want)
		}
	}
}

// upTo returns the numbers from 0 to n - 1.
func upTo(n int) []int {
	l := make([]int, n)
	for i := range l {
		l[i] = i
	}
	return l
}

// R1: a path, and a cycle, of as many vertices as a graph can have, in both directions.
func TestLongestPathsAndCycles(t *testing.T) {
	const n = 5000
	var up, down [][2]int
	singles := make([][]int, n)
	for v := range n {
		up = append(up, [2]int{v, v + 1})
		down = append(down, [2]int{v + 1, v})
		singles[v] = []int{v}
	}
	upward, downward := upTo(n), upTo(n)
	slices.Reverse(downward)
	for _, c := range []struct {
		path        [][2]int
		order, ring []int
	}{
		{up[:n-1], upward, upward},
		{down[:n-1], downward, append([]int{0}, downward[:n-1]...)},
	} {
		first, last := c.order[:1], c.order[n-1]
		want := results{c.order, true, upTo(n), nil, singles}
		if got := resultsOf(n, c.path, first); !got.equal(want) {
			t.Errorf("the path from %d has other results", first)
		}
		ring := append(slices.Clone(c.path), [2]int{last, first[0]})
		want = results{nil, false, upTo(n), c.ring, [][]int{upTo(n)}}
		if got := resultsOf(n, ring, first); !got.equal(want) {
			t.Errorf("the cycle with the path from %d has other results", first)
		}
	}
}

// R1: as many vertices and edges as a graph can have. All edges but those of a path lead upward among the last vertices.
func TestMostEdges(t *testing.T) {
	const n, start, most = 5000, 3600, 1 << 20
	var edges [][2]int
	for v := range n - 1 {
		edges = append(edges, [2]int{v, v + 1})
	}
	for v := start; v < n; v++ {
		for w := v + 2; w < n; w++ {
			edges = append(edges, [2]int{v, w})
		}
	}
	// Repetitions are edges too.
	edges = append(edges, edges...)[:most-1]
	singles := make([][]int, n)
	for v := range n {
		singles[v] = []int{v}
	}
	want := results{upTo(n), true, upTo(n)[start-1:], nil, singles}
	if got := resultsOf(n, edges, []int{start - 1}); !got.equal(want) {
		t.Error("the graph without a cycle has other results")
	}
	want = results{nil, false, upTo(n), append(upTo(start+1), n-1), [][]int{upTo(n)}}
	if got := resultsOf(n, append(edges, [2]int{n - 1, 0}), []int{n - 1}); !got.equal(want) {
		t.Error("the graph with a cycle has other results")
	}
}

// R4: nil and empty slices are equivalent.
func TestNilAndEmptySlices(t *testing.T) {
	for _, edges := range [][][2]int{nil, {}} {
		if got, ok := Topo(2, edges); !ok || !slices.Equal(got, []int{0, 1}) {
			t.Errorf("Topo: %d, %t", got, ok)
		}
		for _, from := range [][]int{nil, {}} {
			if got := Reach(2, edges, from); len(got) != 0 {
				t.Errorf("Reach: %d", got)
			}
		}
		if got := Cycle(2, edges); got != nil {
			t.Errorf("Cycle: %d", got)
		}
		if got := Components(2, edges); !equalLists(got, [][]int{{0}, {1}}) {
			t.Errorf("Components: %d", got)
		}
	}
}

// R4: arguments are not modified, not even beyond their length, and what lies there does not matter.
func TestArgumentsAreNotModified(t *testing.T) {
	edges := [][2]int{{4, 1}, {4, 1}, {3, 2}, {2, 3}, {1, 0}, {0, 0}, {5, 4}, {2, 0}, {9, -9}, {0, 4}}
	from := []int{3, -1, 3, 77, 1, 5, 0, 2}
	wantEdges, wantFrom := slices.Clone(edges), slices.Clone(from)
	for m := range 9 {
		for l := range from {
			got := resultsOf(6, edges[:m], from[:l])
			if want := resultsOf(6, slices.Clip(slices.Clone(edges[:m])), slices.Clip(slices.Clone(from[:l]))); !got.equal(want) {
				t.Errorf("with spare capacity: %v, want %v", got, want)
			}
		}
	}
	if !slices.Equal(edges, wantEdges) || !slices.Equal(from, wantFrom) {
		t.Errorf("the arguments became %d and %d", edges, from)
	}
}

// R4: arguments are not retained, and results are newly allocated at every level.
func TestResultsAreNew(t *testing.T) {
	edges := [][2]int{{0, 1}, {1, 2}, {2, 0}, {5, 3}, {3, 5}, {5, 4}}
	from := []int{3, 0, 2}
	want := resultsOf(6, slices.Clone(edges), slices.Clone(from))
	got := resultsOf(6, edges, from)
	for i := range edges {
		edges[i] = [2]int{0, 0}
	}
	clear(from)
	if !got.equal(want) {
		t.Errorf("after writes to the arguments: %v, want %v", got, want)
	}
	again := resultsOf(6, [][2]int{{0, 1}, {1, 2}, {2, 0}, {5, 3}, {3, 5}, {5, 4}}, []int{3, 0, 2})
	for _, l := range append(slices.Clone(got.components), got.reached, got.cycle) {
		spare := l[:cap(l)]
		for i := range spare {
			spare[i] = -5
		}
	}
	if !again.equal(want) {
		t.Errorf("after writes to other results: %v, want %v", again, want)
	}
}

// R4: writes to a component, and to its spare capacity, reach no other one.
func TestComponentsShareNoMemory(t *testing.T) {
	edges := [][2]int{{0, 1}, {1, 2}, {2, 0}, {5, 3}, {3, 5}, {5, 4}, {7, 6}, {6, 8}, {8, 9}, {9, 10}, {10, 7}}
	want := Components(12, edges)
	for i := range want {
		got := Components(12, edges)
		spare := got[i][:cap(got[i])]
		for j := range spare {
			spare[j] = -5
		}
		got[i] = want[i]
		if !equalLists(got, want) {
			t.Errorf("after writes to component %d: %d, want %d", i, got, want)
		}
	}
}

// No function panics, even outside its domain.
func TestArgumentsOutsideTheDomain(t *testing.T) {
	for _, n := range []int{math.MinInt, -1, 0, 1, 2, 5001} {
		for _, edges := range [][][2]int{nil, {{0, n}}, {{-1, 0}, {0, -1}}, {{math.MaxInt, math.MinInt}, {0, 1}}} {
			resultsOf(n, edges, []int{0, n, -1})
		}
	}
}

// results holds the results of all functions for the same arguments.
type results struct {
	order      []int
	ok         bool
	reached    []int
	cycle      []int
	components [][]int
}

func resultsOf(n int, edges [][2]int, from []int) results {
	var a results
	a.order, a.ok = Topo(n, edges)
	a.reached = Reach(n, edges, from)
	a.cycle = Cycle(n, edges)
	a.components = Components(n, edges)
	return a
}

func (a results) equal(b results) bool {
	return a.ok == b.ok && slices.Equal(a.order, b.order) && slices.Equal(a.reached, b.reached) &&
		slices.Equal(a.cycle, b.cycle) && equalLists(a.components, b.components)
}

// equalLists reports whether two lists have the same lists as elements.
func equalLists(a, b [][]int) bool { return slices.EqualFunc(a, b, slices.Equal[[]int]) }
