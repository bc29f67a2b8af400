package network

import (
	"slices"
	"testing"

	"simproof/api"
)

// bag holds messages by their names, in no order.
type bag map[api.Msg]api.Envelope

// with returns the bag with one more message, or with another content of it.
func (b bag) with(e api.Envelope) bag {
	c := bag{e.Msg: e}
	for m, x := range b {
		if m != e.Msg {
			c[m] = x
		}
	}
	return c
}

// without returns the bag without a message.
func (b bag) without(m api.Msg) bag {
	c := bag{}
	for n, x := range b {
		if n != m {
			c[n] = x
		}
	}
	return c
}

// nameList returns the numbers of a name in the order in which they decide about its place.
func nameList(m api.Msg) []int {
	return []int{m.Cause.Node, m.Cause.Handler, m.Cause.Count, m.Index, m.Copy}
}

// nameOf returns the name with such numbers.
func nameOf(l []int) api.Msg {
	return api.Msg{Cause: api.Cause{Node: l[0], Handler: l[1], Count: l[2]}, Index: l[3], Copy: l[4]}
}

// set returns the messages of a bag in the order of their names.
func (b bag) set() []api.Envelope {
	var l []api.Envelope
	for _, e := range b {
		l = append(l, e)
	}
	slices.SortFunc(l, func(x, y api.Envelope) int { return slices.Compare(nameList(x.Msg), nameList(y.Msg)) })
	return l
}

// checkSet compares a set with a bag.
func checkSet(t *testing.T, l []api.Envelope, b bag) {
	t.Helper()
	if want := b.set(); !slices.Equal(l, want) {
		t.Fatalf("the set is %v, want %v", l, want)
	}
}

// checkAdd adds a message and compares the result with the bag of the set. It returns the set and the bag afterwards.
func checkAdd(t *testing.T, l []api.Envelope, b bag, e api.Envelope) ([]api.Envelope, bag) {
	t.Helper()
	got, err := Add(l, e)
	if _, there := b[e.Msg]; there {
		if len(got) > 0 || err != api.ErrDup {
			t.Fatalf("%v added to %v: %v, error %d, want ErrDup", e, l, got, err)
		}
		return l, b
	}
	if err != api.OK {
		t.Fatalf("%v added to %v: error %d", e, l, err)
	}
	after := b.with(e)
	checkSet(t, got, after)
	checkFind(t, got, after, e.Msg)
	return got, after
}

// checkFind looks for a message and compares the result with the bag of the set.
func checkFind(t *testing.T, l []api.Envelope, b bag, m api.Msg) {
	t.Helper()
	want, there := b[m]
	if got, found := Find(l, m); got != want || found != there {
		t.Fatalf("%v in %v: %v and %t, want %v and %t", m, l, got, found, want, there)
	}
}

// checkRemove removes a message and compares the result with the bag, as above.
func checkRemove(t *testing.T, l []api.Envelope, b bag, m api.Msg) ([]api.Envelope, bag) {
	t.Helper()
	got, after := Remove(l, m), b.without(m)
	checkSet(t, got, after)
	checkFind(t, got, after, m)
	return got, after
}

// definedCopy returns the message that a copy adds to a bag, and the error of the copy.
func (b bag) definedCopy(m api.Msg, copies int) (api.Envelope, api.Errno) {
	e, there := b[m]
	if !there {
		return api.Envelope{}, api.ErrNone
	}
	e.Msg = nameOf(append(nameList(m)[:4], copies))
	if _, taken := b[e.Msg]; taken {
		return api.Envelope{}, api.ErrDup
	}
	return e, api.OK
}

// checkCopy duplicates a message and compares the results with the bag, as above.
func checkCopy(t *testing.T, l []api.Envelope, b bag, m api.Msg, copies int) ([]api.Envelope, bag) {
	t.Helper()
	got, name, err := Copy(l, m, copies)
	added, want := b.definedCopy(m, copies)
	if err != want || name != added.Msg {
		t.Fatalf("%v in %v copied as %d: the name %v, error %d, want %v, error %d", m, l, copies, name, err, added.Msg, want)
	}
	if err != api.OK {
		if len(got) > 0 {
			t.Fatalf("%v in %v copied as %d: %v with error %d", m, l, copies, got, err)
		}
		return l, b
	}
	after := b.with(added)
	checkSet(t, got, after)
	checkFind(t, got, after, m)
	checkFind(t, got, after, name)
	return got, after
}

// checkTo compares the messages to a node with the bag of the set.
func checkTo(t *testing.T, l []api.Envelope, b bag, node int) []api.Msg {
	t.Helper()
	var want [][]int
	for m, e := range b {
		if e.To == node {
			want = append(want, nameList(m))
		}
	}
	slices.SortFunc(want, slices.Compare[[]int])
	got := To(l, node)
	var lists [][]int
	for _, m := range got {
		lists = append(lists, nameList(m))
	}
	if !slices.EqualFunc(lists, want, slices.Equal[[]int]) {
		t.Fatalf("to node %d in %v: %v, want %v", node, l, lists, want)
	}
	return got
}
