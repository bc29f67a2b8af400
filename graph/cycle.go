package graph

import (
	"math/bits"
	"slices"
)

// groupSize is the number of vertices that a group can hold.
const groupSize = 64

// group is a set of vertices: its bit i stands for the vertex number*groupSize + i. Taking the vertices of a group at once makes the search fast in graphs with many edges.
type group struct {
	number int
	bits   uint64
}

// shortestCycle returns the lexicographically least one of the shortest cycles that begin with their smallest vertices, or nil if there is no cycle. An edge leads from each vertex to those in next, and to each vertex from those in before.
func shortestCycle(next, before [][]int) []int {
	sources := make([][]group, len(before))
	for v, l := range before {
		sources[v] = groupsOf(l)
	}
	var shortest []int
	below := len(next) + 1
	for start, l := range next {
		if len(l) == 0 {
			continue
		}
		// A cycle is better only if it is shorter, because those found before begin with smaller vertices.
		if c := cycleFrom(start, next, sources, below); c != nil {
			shortest, below = c, len(c)
		}
	}
	return shortest
}

// cycleFrom returns the least one of the shortest cycles with the smallest vertex start, or nil if they do not have fewer than below vertices.
func cycleFrom(start int, next [][]int, sources [][]group, below int) []int {
	// The search goes against the edges. It finds start when it has gone round a cycle.
	unfound := verticesFrom(start, len(next))
	distance := make([]int, len(next)) // from each vertex that was found to start
	queue := []int{start}
	for i := 0; i < len(queue); i++ {
		v := queue[i]
		length := distance[v] + 1
		if length >= below {
			return nil
		}
		known := len(queue)
		queue = appendTaken(queue, unfound, sources[v])
		for _, u := range queue[known:] {
			if u == start {
				return leastWalk(start, length, next, distance)
			}
			distance[u] = length
		}
	}
	return nil
}

// leastWalk returns the least one of the cycles of a length that begin with start. All distances below this length are known, and no cycle through vertices with a distance is shorter.
func leastWalk(start, length int, next [][]int, distance []int) []int {
	cycle := []int{start}
	for v := start; len(cycle) < length; cycle = append(cycle, v) {
		rest := length - len(cycle)
		i := slices.IndexFunc(next[v], func(w int) bool { return distance[w] == rest })
		v = next[v][i]
	}
	return cycle
}

// groupsOf returns the groups of an increasing list of vertices.
func groupsOf(l []int) []group {
	var groups []group
	for _, v := range l {
		last := len(groups) - 1
		if last < 0 || groups[last].number != v/groupSize {
			groups = append(groups, group{number: v / groupSize})
			last++
		}
		groups[last].bits |= 1 << (v % groupSize)
	}
	return groups
}

// verticesFrom returns the bits of all groups of a graph with n vertices, those of the vertices from start on being set.
func verticesFrom(start, n int) []uint64 {
	set := make([]uint64, (n+groupSize-1)/groupSize)
	for v := start; v < n; v++ {
		set[v/groupSize] |= 1 << (v % groupSize)
	}
	return set
}

// appendTaken removes the vertices of some groups from a set, and returns the list with those appended that were in it.
func appendTaken(list []int, set []uint64, groups []group) []int {
	for _, g := range groups {
		taken := set[g.number] & g.bits
		set[g.number] ^= taken
		for ; taken != 0; taken &= taken - 1 {
			list = append(list, g.number*groupSize+bits.TrailingZeros64(taken))
		}
	}
	return list
}
