package graph

import (
	"math/rand"
	"slices"
	"testing"
)

// matrix says between which vertices edges lead, or paths.
type matrix [][]bool

func matrixOf(n int, edges [][2]int) matrix {
	m := make(matrix, n)
	for v := range m {
		m[v] = make([]bool, n)
	}
	for _, e := range edges {
		m[e[0]][e[1]] = true
	}
	return m
}

// paths says from which vertices to which ones paths of at least one edge lead.
func (m matrix) paths() matrix {
	p := make(matrix, len(m))
	for v, row := range m {
		p[v] = slices.Clone(row)
	}
	for v := range p {
		for a := range p {
			for b := range p {
				p[a][b] = p[a][b] || p[a][v] && p[v][b]
			}
		}
	}
	return p
}

// leastList returns the lexicographically least list of distinct vertices with a length that begins with start and is accepted, or nil.
func (m matrix) leastList(length int, start []int, accepted func(l []int) bool) []int {
	if len(start) == length {
		if accepted(start) {
			return start
		}
		return nil
	}
	for v := range m {
		if slices.Contains(start, v) {
			continue
		}
		if l := m.leastList(length, append(slices.Clone(start), v), accepted); l != nil {
			return l
		}
	}
	return nil
}

// isOrder reports whether every edge leads from an earlier element to a later one.
func (m matrix) isOrder(l []int) bool {
	for i, v := range l {
		for _, w := range l[:i+1] {
			if m[v][w] {
				return false
			}
		}
	}
	return true
}

// isCycle reports whether l is a cycle that begins with its smallest vertex, if its elements are distinct.
func (m matrix) isCycle(l []int) bool {
	for i, v := range l {
		if !m[v][l[(i+1)%len(l)]] {
			return false
		}
	}
	return slices.Min(l) == l[0]
}

// wantCycle tries all lists of distinct vertices.
func (m matrix) wantCycle() []int {
	for length := 1; length <= len(m); length++ {
		if l := m.leastList(length, nil, m.isCycle); l != nil {
			return l
		}
	}
	return nil
}

// wantTopo tries all lists of all vertices.
func (m matrix) wantTopo() ([]int, bool) {
	if len(m) == 0 {
		return nil, true
	}
	l := m.leastList(len(m), nil, m.isOrder)
	return l, l != nil
}

func wantReach(paths matrix, from []int) []int {
	var l []int
	for v := range paths {
		if slices.ContainsFunc(from, func(f int) bool { return f == v || f >= 0 && f < len(paths) && paths[f][v] }) {
			l = append(l, v)
		}
	}
	return l
}

func wantComponents(paths matrix) [][]int {
	var all [][]int
	for v := range paths {
		l := []int{v}
		for w := range paths {
			if w != v && paths[v][w] && paths[w][v] {
				l = append(l, w)
			}
		}
		slices.Sort(l)
		if l[0] == v {
			all = append(all, l)
		}
	}
	return all
}

// wanted follows the definitions.
func wanted(n int, edges [][2]int, from []int) results {
	var a results
	m := matrixOf(n, edges)
	paths := m.paths()
	a.order, a.ok = m.wantTopo()
	a.reached = wantReach(paths, from)
	a.cycle = m.wantCycle()
	a.components = wantComponents(paths)
	return a
}

// chosen returns those of all edges of a graph with n vertices whose bits are set.
func chosen(n int, bits int) [][2]int {
	var edges [][2]int
	for i := range n * n {
		if bits>>i&1 == 1 {
			edges = append(edges, [2]int{i / n, i % n})
		}
	}
	return edges
}

// someEdges returns random edges of a graph with n vertices, with repetitions.
func someEdges(r *rand.Rand, n, count int) [][2]int {
	var edges [][2]int
	if n > 0 {
		for range count {
			edges = append(edges, [2]int{r.Intn(n), r.Intn(n)})
		}
	}
	return edges
}

// someVertices returns a random list of ints, most of which are vertices.
func someVertices(r *rand.Rand, n int) []int {
	var l []int
	for range r.Intn(4) {
		l = append(l, r.Intn(n+4)-2)
	}
	return l
}

// acyclicEdges returns random edges that lead from earlier to later elements of a random list of all vertices.
func acyclicEdges(r *rand.Rand, n, count int) [][2]int {
	rank := r.Perm(n)
	var edges [][2]int
	for _, e := range someEdges(r, n, count) {
		if rank[e[0]] > rank[e[1]] {
			e[0], e[1] = e[1], e[0]
		}
		if e[0] != e[1] {
			edges = append(edges, e)
		}
	}
	return edges
}

// layeredEdges returns edges from each layer of a ring of layers to the next one, with random numbers for the vertices: all cycles are long.
func layeredEdges(r *rand.Rand, n, width, count int) [][2]int {
	number := r.Perm(n)
	layers := n / width
	var edges [][2]int
	for i := range count {
		layer := i % layers
		from, to := layer*width+r.Intn(width), (layer+1)%layers*width+r.Intn(width)
		edges = append(edges, [2]int{number[from], number[to]})
	}
	return edges
}

// P3.1 to P3.4: all graphs with at most four vertices.
func TestAllSmallGraphs(t *testing.T) {
	for n := range 5 {
		for bits := range 1 << (n * n) {
			edges := chosen(n, bits)
			from := []int{bits % (n + 1), -1}
			if got, want := resultsOf(n, edges, from), wanted(n, edges, from); !got.equal(want) {
				t.Fatalf("%d vertices, edges %d, from %d: %v, want %v", n, edges, from, got, want)
			}
		}
	}
}

// P3.1 to P3.4: random graphs of up to seven vertices.
func TestRandomGraphsFollowTheDefinitions(t *testing.T) {
	r := rand.New(rand.NewSource(3))
	for range 2000 {
		n := r.Intn(8)
		edges := someEdges(r, n, r.Intn(2*n+1))
		if r.Intn(3) == 0 {
			edges = acyclicEdges(r, n, r.Intn(3*n+1))
		}
		from := someVertices(r, n)
		if got, want := resultsOf(n, edges, from), wanted(n, edges, from); !got.equal(want) {
			t.Fatalf("%d vertices, edges %d, from %d: %v, want %v", n, edges, from, got, want)
		}
	}
}

// distances returns the lengths of the shortest paths of at least one edge, or len(m)+1 where there are none.
func (m matrix) distances() [][]int {
	d := make([][]int, len(m))
	for v, row := range m {
		d[v] = slices.Repeat([]int{len(m) + 1}, len(m))
		for w, edge := range row {
			if edge {
				d[v][w] = 1
			}
		}
	}
	for v := range d {
		for a := range d {
			for b := range d {
				d[a][b] = min(d[a][b], d[a][v]+d[v][b])
			}
		}
	}
	return d
}

// quickCycle finds the cycle from the distances between all vertices.
func (m matrix) quickCycle() []int {
	d := m.distances()
	length := len(m) + 1
	start := -1
	for v := range m {
		if d[v][v] < length {
			length, start = d[v][v], v
		}
	}
	if start < 0 {
		return nil
	}
	cycle := []int{start}
	for len(cycle) < length {
		last, rest := cycle[len(cycle)-1], length-len(cycle)
		for w := range m {
			if m[last][w] && d[w][start] == rest {
				cycle = append(cycle, w)
				break
			}
		}
	}
	return cycle
}

// quickTopo takes the smallest vertex without a predecessor, again and again.
func (m matrix) quickTopo() ([]int, bool) {
	var order []int
	taken := make([]bool, len(m))
	isFree := func(w int) bool {
		for v := range m {
			if m[v][w] && !taken[v] {
				return false
			}
		}
		return !taken[w]
	}
	for len(order) < len(m) {
		v := 0
		for v < len(m) && !isFree(v) {
			v++
		}
		if v == len(m) {
			return nil, false
		}
		taken[v] = true
		order = append(order, v)
	}
	return order, true
}

// quickly gives the same results as wanted, in less time.
func quickly(n int, edges [][2]int, from []int) results {
	var a results
	m := matrixOf(n, edges)
	paths := m.paths()
	a.order, a.ok = m.quickTopo()
	a.reached = wantReach(paths, from)
	a.cycle = m.quickCycle()
	a.components = wantComponents(paths)
	return a
}

// The quick reference is right where the definitions can be tried.
func TestQuickReference(t *testing.T) {
	r := rand.New(rand.NewSource(4))
	for range 500 {
		n := r.Intn(7)
		edges := someEdges(r, n, r.Intn(2*n+1))
		if got, want := quickly(n, edges, nil), wanted(n, edges, nil); !got.equal(want) {
			t.Fatalf("%d vertices, edges %d: %v, want %v", n, edges, got, want)
		}
	}
}

// P3.1 to P3.4: larger graphs, with few and many edges, with and without cycles, with short and long ones.
func TestLargerGraphs(t *testing.T) {
	r := rand.New(rand.NewSource(5))
	cycleLengths := map[int]bool{}
	for i := range 240 {
		n := 1 + r.Intn(150)
		var edges [][2]int
		switch i % 4 {
		case 0:
			edges = someEdges(r, n, r.Intn(2*n+1))
		case 1:
			edges = someEdges(r, n, r.Intn(n*n))
		case 2:
			edges = acyclicEdges(r, n, r.Intn(3*n+1))
		case 3:
			width := 1 + r.Intn(min(n, 5))
			edges = layeredEdges(r, n, width, n/width*(1+r.Intn(3*width)))
		}
		from := someVertices(r, n)
		got, want := resultsOf(n, edges, from), quickly(n, edges, from)
		if !got.equal(want) {
			t.Fatalf("%d vertices, edges %d, from %d: %v, want %v", n, edges, from, got, want)
		}
		cycleLengths[len(got.cycle)] = true
	}
	if len(cycleLengths) < 20 {
		t.Errorf("the cycles have only %d different lengths", len(cycleLengths))
	}
}

// someGraph returns a random graph of up to 30 vertices: one that may have cycles, or one without.
func someGraph(r *rand.Rand) (int, [][2]int) {
	n := r.Intn(31)
	if r.Intn(2) == 0 {
		return n, acyclicEdges(r, n, r.Intn(3*n+1))
	}
	return n, someEdges(r, n, r.Intn(2*n+1))
}

// P3.5: Topo, Cycle and Components agree about whether there is a cycle.
func TestAgreementAboutCycles(t *testing.T) {
	r := rand.New(rand.NewSource(6))
	count := map[bool]int{}
	for range 3000 {
		n, edges := someGraph(r)
		_, ok := Topo(n, edges)
		single := !slices.ContainsFunc(Components(n, edges), func(c []int) bool { return len(c) != 1 })
		loops := slices.ContainsFunc(edges, func(e [2]int) bool { return e[0] == e[1] })
		if noCycle := Cycle(n, edges) == nil; ok != noCycle || ok != (single && !loops) {
			t.Fatalf("%d vertices, edges %d: Topo %t, no cycle %t, single vertices %t, loops %t", n, edges, ok, noCycle, single, loops)
		}
		count[ok]++
	}
	if count[true] < 500 || count[false] < 500 {
		t.Errorf("the graphs are one-sided: %v", count)
	}
}

// P3.6: Reach is monotone and idempotent, and tells components.
func TestReachProperties(t *testing.T) {
	r := rand.New(rand.NewSource(7))
	for range 1000 {
		n, edges := someGraph(r)
		from, more := someVertices(r, n), someVertices(r, n)
		reached := Reach(n, edges, from)
		if again := Reach(n, edges, reached); !slices.Equal(again, reached) {
			t.Fatalf("%d vertices, edges %d: from %d Reach is %d, and from there %d", n, edges, from, reached, again)
		}
		both := Reach(n, edges, slices.Concat(more, from))
		for _, v := range reached {
			if !slices.Contains(both, v) {
				t.Fatalf("%d vertices, edges %d: %d is reached from %d, but not with %d", n, edges, v, from, more)
			}
		}
		home := make([]int, n)
		for i, c := range Components(n, edges) {
			for _, v := range c {
				home[v] = i
			}
		}
		for range min(n, 5) {
			v, w := r.Intn(n), r.Intn(n)
			there := slices.Contains(Reach(n, edges, []int{v}), w)
			back := slices.Contains(Reach(n, edges, []int{w}), v)
			if (there && back) != (home[v] == home[w]) {
				t.Fatalf("%d vertices, edges %d: %d to %d %t, back %t, components %d", n, edges, v, w, there, back, home)
			}
		}
	}
}

// P3.7: an edge along a topological order adds no cycle, and one against a path adds one.
func TestAddedEdges(t *testing.T) {
	r := rand.New(rand.NewSource(8))
	for range 1000 {
		n := 2 + r.Intn(20)
		edges := acyclicEdges(r, n, r.Intn(3*n))
		order, ok := Topo(n, edges)
		if !ok {
			t.Fatalf("%d vertices: no order for edges %d", n, edges)
		}
		i := r.Intn(n - 1)
		v, w := order[i], order[i+1+r.Intn(n-1-i)]
		forward := append(slices.Clone(edges), [2]int{v, w})
		if _, ok := Topo(n, forward); !ok || Cycle(n, forward) != nil || len(Components(n, forward)) != n {
			t.Fatalf("%d vertices, edges %d: a cycle by an edge from %d to %d", n, edges, v, w)
		}
		for _, u := range Reach(n, edges, []int{v}) {
			backward := append(slices.Clone(edges), [2]int{u, v})
			_, ok := Topo(n, backward)
			cycle := Cycle(n, backward)
			if ok || !slices.Contains(cycle, u) || !slices.Contains(cycle, v) {
				t.Fatalf("%d vertices, edges %d: Cycle is %d after an edge from %d to %d", n, edges, cycle, u, v)
			}
			if !slices.ContainsFunc(Components(n, backward), func(c []int) bool { return slices.Contains(c, u) && slices.Contains(c, v) }) {
				t.Fatalf("%d vertices, edges %d: no component with %d and %d after an edge from %d to %d", n, edges, u, v, u, v)
			}
		}
	}
}

// P3.8: edges in another order, some of them several times, give the same results.
func TestOrderAndMultiplicityOfEdges(t *testing.T) {
	r := rand.New(rand.NewSource(9))
	for range 1000 {
		n, edges := someGraph(r)
		from := someVertices(r, n)
		want := resultsOf(n, edges, from)
		for range 3 {
			changed := slices.Clone(edges)
			for range r.Intn(len(edges) + 1) {
				changed = append(changed, edges[r.Intn(len(edges))])
			}
			r.Shuffle(len(changed), func(i, j int) { changed[i], changed[j] = changed[j], changed[i] })
			if got := resultsOf(n, changed, from); !got.equal(want) {
				t.Fatalf("%d vertices, from %d: %v for edges %d, but %v for edges %d", n, from, got, changed, want, edges)
			}
		}
	}
}
