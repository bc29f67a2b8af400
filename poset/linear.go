package poset

// Extensions returns the number of linear extensions, at most some number.
func (o *Order) Extensions(most int) int {
	if most <= 0 {
		return 0
	}
	next := newFrontier(o.above)
	total := 0
	// The elements that can come next determine which ones are left, and so in how many ways these can follow.
	known := map[string]int{}
	var extend func(left int)
	extend = func(left int) {
		if left == 0 {
			total++
			return
		}
		key := next.ready.key()
		if count, ok := known[key]; ok {
			total += min(count, most-total)
			return
		}
		before := total
		for a := range o.Len() {
			if next.ready.has(a) {
				next.take(a)
				extend(left - 1)
				next.putBack(a)
				if total == most {
					return
				}
			}
		}
		known[key] = total - before
	}
	extend(o.Len())
	return total
}

// leastLinear returns the lexicographically least list of all elements in which each one comes before those above it. If there is a cycle, the list lacks elements.
func leastLinear(above []set) []int {
	next := newFrontier(above)
	list := make([]int, 0, len(above))
	for a, ok := next.ready.first(); ok; a, ok = next.ready.first() {
		next.take(a)
		list = append(list, a)
	}
	return list
}

// frontier says which elements can come next in a list in which each one comes before those above it.
type frontier struct {
	above []set
	waits []int // for each element, how many of those that it is above are not yet in the list
	ready set   // the elements that can come next
}

// newFrontier returns the frontier of an empty list.
func newFrontier(above []set) *frontier {
	f := &frontier{above, make([]int, len(above)), newSet(len(above))}
	for a := range len(above) {
		for b := range above[a].members() {
			f.waits[b]++
		}
	}
	for a := range len(above) {
		if f.waits[a] == 0 {
			f.ready.add(a)
		}
	}
	return f
}

// take appends a ready element to the list.
func (f *frontier) take(a int) {
	f.ready.remove(a)
	for b := range f.above[a].members() {
		f.waits[b]--
		if f.waits[b] == 0 {
			f.ready.add(b)
		}
	}
}

// putBack removes the last element a from the list.
func (f *frontier) putBack(a int) {
	for b := range f.above[a].members() {
		f.ready.remove(b)
		f.waits[b]++
	}
	f.ready.add(a)
}
