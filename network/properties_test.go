package network

import (
	"math"
	"math/rand"
	"slices"
	"testing"

	"simproof/api"
)

// universe returns messages whose names differ in few places.
func universe() []api.Envelope {
	return contents(
		name(0, 0, 0, 0, -1), name(0, 0, 0, 0, 0), name(0, 0, 0, 0, 1), name(0, 0, 0, 1, 0), name(0, 0, 0, 1, 1),
		name(0, 0, 1, 0, 0), name(0, 1, 0, 0, 0), name(1, 0, 0, 0, 0), name(1, 0, 0, 0, 1), name(1, 1, 1, 1, 1),
	)
}

// eachSet calls a function with each set of some messages, and with its bag.
func eachSet(all []api.Envelope, call func(l []api.Envelope, b bag)) {
	for mask := range 1 << len(all) {
		b := bag{}
		for i, e := range all {
			if mask>>i&1 == 1 {
				b[e.Msg] = e
			}
		}
		call(b.set(), b)
	}
}

// P14.1 to P14.4: all sets of the universe with all calls that its names and contents allow.
func TestAllSets(t *testing.T) {
	eachSet(universe(), func(l []api.Envelope, b bag) {
		for _, e := range universe() {
			checkAdd(t, l, b, e)
			checkAdd(t, l, b, api.Envelope{Msg: e.Msg, To: e.To + 1})
			checkFind(t, l, b, e.Msg)
			checkRemove(t, l, b, e.Msg)
			for copies := -2; copies <= 2; copies++ {
				checkCopy(t, l, b, e.Msg, copies)
			}
		}
		for node := -1; node <= 3; node++ {
			checkTo(t, l, b, node)
		}
	})
}

// number returns a random number, often an extreme one.
func number(r *rand.Rand) int {
	switch r.Intn(8) {
	case 0:
		return []int{math.MinInt, math.MinInt + 1, -api.MaxValue, -1, api.MaxValue, api.MaxValue + 1, math.MaxInt - 1, math.MaxInt}[r.Intn(8)]
	case 1:
		return int(r.Uint64() >> r.Intn(64))
	}
	return r.Intn(2)
}

// someName returns a random name, often one that is there.
func someName(r *rand.Rand, l []api.Envelope) api.Msg {
	if len(l) > 0 && r.Intn(2) == 0 {
		return l[r.Intn(len(l))].Msg
	}
	return name(number(r), number(r), number(r), number(r), number(r))
}

// P14.1 to P14.4: long random sequences with any numbers.
func TestRandomSequences(t *testing.T) {
	r := rand.New(rand.NewSource(1))
	for range 500 {
		var l []api.Envelope
		b := bag{}
		for range r.Intn(100) {
			switch r.Intn(8) {
			case 0:
				l, b = checkRemove(t, l, b, someName(r, l))
			case 1:
				l, b = checkCopy(t, l, b, someName(r, l), number(r))
			case 2:
				checkTo(t, l, b, number(r))
			case 3:
				checkFind(t, l, b, someName(r, l))
			default:
				l, b = checkAdd(t, l, b, api.Envelope{Msg: someName(r, l), To: number(r), Kind: number(r), A: number(r), B: number(r)})
			}
		}
		checkSet(t, l, b)
		checkPartition(t, l, b)
	}
}

// P14.5: all orders in which seven messages are added.
func TestAllOrders(t *testing.T) {
	all := universe()[:7]
	var extend func(l []api.Envelope, rest []api.Envelope)
	extend = func(l []api.Envelope, rest []api.Envelope) {
		if len(rest) == 0 && !slices.Equal(l, all) {
			t.Fatalf("the set is %v", l)
		}
		for i, e := range rest {
			more, err := Add(l, e)
			if err != api.OK {
				t.Fatalf("%v added to %v: error %d", e, l, err)
			}
			extend(more, slices.Delete(slices.Clone(rest), i, i+1))
		}
	}
	extend(nil, all)
}

// P14.5: a message that was added is found, and removing it restores the set. Adding one that was removed does, too.
func TestAddAndRemove(t *testing.T) {
	eachSet(universe(), func(l []api.Envelope, b bag) {
		for _, e := range universe() {
			if more, err := Add(l, e); err == api.OK {
				if got, found := Find(more, e.Msg); got != e || !found {
					t.Fatalf("%v added to %v is found as %v, %t", e, l, got, found)
				}
				if got := Remove(more, e.Msg); !slices.Equal(got, l) {
					t.Fatalf("%v added to %v and removed: %v", e, l, got)
				}
			}
			less := Remove(l, e.Msg)
			if got, found := Find(less, e.Msg); got != (api.Envelope{}) || found {
				t.Fatalf("%v removed from %v is found as %v", e.Msg, l, got)
			}
			if was, found := b[e.Msg]; found {
				if got, err := Add(less, was); !slices.Equal(got, l) || err != api.OK {
					t.Fatalf("%v removed from %v and added: %v, error %d", e.Msg, l, got, err)
				}
			}
		}
	})
}

// operation changes a set, unless there is an error. It mentions only its own names.
type operation struct {
	names []api.Msg
	do    func(l []api.Envelope) ([]api.Envelope, api.Errno)
}

// operations returns those on the messages of the universe.
func operations() []operation {
	var all []operation
	for _, e := range universe() {
		all = append(all, operation{[]api.Msg{e.Msg}, func(l []api.Envelope) ([]api.Envelope, api.Errno) { return Add(l, e) }},
			operation{[]api.Msg{e.Msg}, func(l []api.Envelope) ([]api.Envelope, api.Errno) { return Remove(l, e.Msg), api.OK }})
		for copies := range 3 {
			added := e.Msg
			added.Copy = copies
			all = append(all, operation{[]api.Msg{e.Msg, added}, func(l []api.Envelope) ([]api.Envelope, api.Errno) {
				more, _, err := Copy(l, e.Msg, copies)
				return more, err
			}})
		}
	}
	return all
}

// both does two operations and returns the set, and the errors of the first and the second one.
func both(l []api.Envelope, a, b operation) ([]api.Envelope, api.Errno, api.Errno) {
	after, first := a.do(l)
	if first != api.OK {
		after = l
	}
	last, second := b.do(after)
	if second != api.OK {
		last = after
	}
	return last, first, second
}

// P14.5: operations on different names commute.
func TestOperationsCommute(t *testing.T) {
	all := operations()
	eachSet(universe()[1:8], func(l []api.Envelope, _ bag) {
		for i, a := range all {
			for _, b := range all[i+1:] {
				if slices.ContainsFunc(a.names, func(m api.Msg) bool { return slices.Contains(b.names, m) }) {
					continue
				}
				one, a1, b1 := both(l, a, b)
				other, b2, a2 := both(l, b, a)
				if !slices.Equal(one, other) || a1 != a2 || b1 != b2 {
					t.Fatalf("operations on %v and %v of %v: %v, errors %d and %d; in the other order %v, errors %d and %d", a.names, b.names, l, one, a1, b1, other, a2, b2)
				}
			}
		}
	})
}

// checkPartition checks that every name is in exactly one of the lists of all receivers.
func checkPartition(t *testing.T, l []api.Envelope, b bag) {
	t.Helper()
	receivers, seen := map[int]bool{}, map[api.Msg]int{}
	for _, e := range b {
		receivers[e.To] = true
	}
	for node := range receivers {
		for _, m := range checkTo(t, l, b, node) {
			seen[m]++
		}
	}
	for m := range b {
		if seen[m] != 1 {
			t.Fatalf("%v is in %d lists of %v", m, seen[m], l)
		}
	}
	if len(seen) != len(b) {
		t.Fatalf("the lists of %v have %d names", l, len(seen))
	}
}

// P14.6: the lists of all receivers contain every name once.
func TestPartition(t *testing.T) {
	eachSet(universe(), func(l []api.Envelope, b bag) { checkPartition(t, l, b) })
}

// P14.1 to P14.6: as many messages as many nodes send in a long run.
func TestLargeSet(t *testing.T) {
	const total = 5000
	var l []api.Envelope
	for i := range total {
		k := i * 1999 % total
		l, _ = Add(l, api.Envelope{Msg: name(k%12, k/12%40, k/480, 0, 0), To: k % 7, A: k})
	}
	b := bag{}
	for k := range total {
		m := name(k%12, k/12%40, k/480, 0, 0)
		b[m] = api.Envelope{Msg: m, To: k % 7, A: k}
	}
	checkSet(t, l, b)
	checkPartition(t, l, b)
	for m := range b {
		checkFind(t, l, b, m)
		checkFind(t, l, b, name(m.Cause.Node, m.Cause.Handler, m.Cause.Count, 0, 1))
	}
	for k := range total {
		l = Remove(l, name(k%12, k/12%40, k/480, 0, 0))
	}
	if len(l) > 0 {
		t.Errorf("%v are left", l)
	}
}
