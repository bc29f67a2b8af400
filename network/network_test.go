package network

import (
	"math"
	"slices"
	"testing"

	"simproof/api"
)

// name returns the name of a message.
func name(node, handler, count, index, copies int) api.Msg {
	return api.Msg{Cause: api.Cause{Node: node, Handler: handler, Count: count}, Index: index, Copy: copies}
}

// extremes returns names in increasing order, in which each number decides somewhere.
func extremes() []api.Msg {
	return []api.Msg{
		name(math.MinInt, 9, 9, 9, 9), name(-1, 9, 9, 9, 9), name(0, math.MinInt, 9, 9, 9), name(0, -1, 9, 9, 9),
		name(0, 0, math.MinInt, 9, 9), name(0, 0, -1, 9, 9), name(0, 0, 0, math.MinInt, 9), name(0, 0, 0, -1, 9),
		name(0, 0, 0, 0, math.MinInt), name(0, 0, 0, 0, -1), {}, name(0, 0, 0, 0, 1), name(0, 0, 0, 0, math.MaxInt),
		name(0, 0, 0, 1, 0), name(0, 0, 0, 10, 0), name(0, 0, 0, math.MaxInt, 0), name(0, 0, 2, 0, 0), name(0, 0, 10, 0, 0),
		name(0, 9, 0, 0, 0), name(0, 39, 0, 0, 0), name(0, 40, -5, 0, 0), name(1, 0, 0, 0, 0), name(11, 0, 0, 0, 0),
		name(math.MaxInt, 0, 0, 0, math.MinInt), name(math.MaxInt, 0, 0, 0, math.MaxInt),
	}
}

// contents returns envelopes with some names and with different contents.
func contents(all ...api.Msg) []api.Envelope {
	l := make([]api.Envelope, len(all))
	for i, m := range all {
		l[i] = api.Envelope{Msg: m, To: i % 3, Kind: i % 30, A: 100 + i, B: -i}
	}
	return l
}

// setOf returns the set with some envelopes, none of which have the same name.
func setOf(t *testing.T, all ...api.Envelope) []api.Envelope {
	t.Helper()
	var l []api.Envelope
	for _, e := range all {
		more, err := Add(l, e)
		if err != api.OK {
			t.Fatalf("%v added to %v: error %d", e, l, err)
		}
		l = more
	}
	return l
}

// P14.1: the chapter's example.
func TestExample(t *testing.T) {
	later, sooner := api.Envelope{Msg: name(1, 0, 0, 0, 0), To: 2}, api.Envelope{Msg: name(0, 0, 0, 0, 0), To: 3}
	if got := setOf(t, later, sooner); !slices.Equal(got, []api.Envelope{sooner, later}) {
		t.Errorf("the set is %v", got)
	}
}

// P14.1: a message comes to its place, whichever of the numbers of its name decides about it.
func TestAdd(t *testing.T) {
	all := contents(extremes()...)
	for i, e := range all {
		rest := slices.Delete(slices.Clone(all), i, i+1)
		if got, err := Add(rest, e); !slices.Equal(got, all) || err != api.OK {
			t.Errorf("with message %d: %v, error %d", i, got, err)
		}
		if got, err := Add(nil, e); !slices.Equal(got, []api.Envelope{e}) || err != api.OK {
			t.Errorf("message %d alone: %v, error %d", i, got, err)
		}
		for _, other := range all[i+1:] {
			want := []api.Envelope{e, other}
			if !slices.Equal(setOf(t, e, other), want) || !slices.Equal(setOf(t, other, e), want) {
				t.Errorf("the set is not %v", want)
			}
		}
	}
}

// P14.1: a name that is there is not added again, whatever the contents are.
func TestAddTwice(t *testing.T) {
	all := contents(extremes()...)
	for i, e := range all {
		for _, again := range []api.Envelope{e, {Msg: e.Msg}, {Msg: e.Msg, To: math.MinInt, Kind: -1, A: math.MaxInt, B: 5}} {
			for _, l := range [][]api.Envelope{{e}, all, all[i:], all[:i+1]} {
				if got, err := Add(l, again); len(got) > 0 || err != api.ErrDup {
					t.Errorf("message %d added again: %v, error %d", i, got, err)
				}
			}
		}
	}
}

// P14.1: the content does not decide about the place.
func TestContentIsNoName(t *testing.T) {
	high, low := api.Envelope{Msg: name(0, 0, 0, 0, 0), To: 9, Kind: 9, A: 9, B: 9}, api.Envelope{Msg: name(0, 0, 0, 0, 1), To: -9, Kind: -9, A: -9, B: -9}
	if got := setOf(t, low, high); !slices.Equal(got, []api.Envelope{high, low}) {
		t.Errorf("the set is %v", got)
	}
	same := high
	same.Msg.Index = 4
	if got := setOf(t, same, high); !slices.Equal(got, []api.Envelope{high, same}) {
		t.Errorf("the set is %v", got)
	}
}

// P14.2: the message with exactly this name.
func TestFind(t *testing.T) {
	all := contents(extremes()...)
	for i, e := range all {
		if got, found := Find(all, e.Msg); got != e || !found {
			t.Errorf("message %d: %v and %t", i, got, found)
		}
		rest := slices.Delete(slices.Clone(all), i, i+1)
		if got, found := Find(rest, e.Msg); got != (api.Envelope{}) || found {
			t.Errorf("message %d, which is not there: %v and %t", i, got, found)
		}
	}
	one := contents(name(1, 2, 3, 4, 5))
	for i := range 5 {
		for _, by := range []int{-1, 1} {
			l := nameList(one[0].Msg)
			l[i] += by
			if got, found := Find(one, nameOf(l)); got != (api.Envelope{}) || found {
				t.Errorf("%d in %v: %v and %t", l, one, got, found)
			}
		}
	}
	if got, found := Find(nil, api.Msg{}); got != (api.Envelope{}) || found {
		t.Errorf("in the empty set: %v and %t", got, found)
	}
	if got, found := Find([]api.Envelope{{}}, api.Msg{}); got != (api.Envelope{}) || !found {
		t.Errorf("the zero message: %v and %t", got, found)
	}
}

// P14.2: the set without exactly this message.
func TestRemove(t *testing.T) {
	all := contents(extremes()...)
	for i, e := range all {
		rest := slices.Delete(slices.Clone(all), i, i+1)
		if got := Remove(all, e.Msg); !slices.Equal(got, rest) {
			t.Errorf("without message %d: %v", i, got)
		}
		if got := Remove(rest, e.Msg); !slices.Equal(got, rest) {
			t.Errorf("without message %d, which is not there: %v", i, got)
		}
		if got := Remove([]api.Envelope{e}, e.Msg); len(got) > 0 {
			t.Errorf("message %d without itself: %v", i, got)
		}
	}
	if got := Remove(nil, api.Msg{}); len(got) > 0 {
		t.Errorf("the empty set without a message: %v", got)
	}
}

// P14.2: messages with equal contents are different, and a name that is not there does not stand for the zero message.
func TestRemoveKeepsOthers(t *testing.T) {
	l := []api.Envelope{{}, {Msg: name(0, 0, 0, 0, 1)}, {Msg: name(0, 0, 0, 1, 0)}}
	for i, e := range l {
		if got := Remove(l, e.Msg); !slices.Equal(got, slices.Delete(slices.Clone(l), i, i+1)) {
			t.Errorf("without message %d: %v", i, got)
		}
	}
	for _, m := range []api.Msg{name(0, 0, 0, 0, -1), name(0, 0, 0, 0, 2), name(0, 0, 1, 0, 0), name(-1, 0, 0, 0, 0), name(5, 5, 5, 5, 5)} {
		if got := Remove(l, m); !slices.Equal(got, l) {
			t.Errorf("without %v: %v", m, got)
		}
	}
}

// P14.3: the copy has the content of the message, the number that it is given, and the place of its name.
func TestCopy(t *testing.T) {
	e := api.Envelope{Msg: name(1, 2, 3, 4, 5), To: 6, Kind: 7, A: 8, B: 9}
	before, after := api.Envelope{Msg: name(1, 2, 3, 4, -9)}, api.Envelope{Msg: name(1, 2, 3, 5, 0)}
	l := []api.Envelope{before, e, after}
	for _, copies := range []int{-8, -1, 0, 1, 4, 6, 1000, api.MaxValue, math.MaxInt} {
		added := e
		added.Msg.Copy = copies
		want := []api.Envelope{before, added, e, after}
		if copies > 5 {
			want = []api.Envelope{before, e, added, after}
		}
		if got, m, err := Copy(l, e.Msg, copies); !slices.Equal(got, want) || m != added.Msg || err != api.OK {
			t.Errorf("copied as %d: %v and %v, error %d", copies, got, m, err)
		}
	}
	added := e
	added.Msg.Copy = math.MinInt
	if got, m, err := Copy(l, e.Msg, math.MinInt); !slices.Equal(got, []api.Envelope{added, before, e, after}) || m != added.Msg || err != api.OK {
		t.Errorf("copied as the least number: %v and %v, error %d", got, m, err)
	}
}

// P14.3: without the message ErrNone, even if the name of the copy is there; with this name ErrDup.
func TestCopyErrors(t *testing.T) {
	l := contents(name(1, 2, 3, 4, 0), name(1, 2, 3, 4, 1), name(1, 2, 3, 4, 3))
	for _, c := range []struct {
		m      api.Msg
		copies int
		want   api.Errno
	}{
		{name(1, 2, 3, 4, 2), 2, api.ErrNone},
		{name(1, 2, 3, 4, 2), 0, api.ErrNone},
		{name(1, 2, 3, 4, 2), 7, api.ErrNone},
		{name(0, 2, 3, 4, 0), 1, api.ErrNone},
		{name(1, 1, 3, 4, 0), 1, api.ErrNone},
		{name(1, 2, 4, 4, 0), 1, api.ErrNone},
		{name(1, 2, 3, 5, 0), 1, api.ErrNone},
		{api.Msg{}, 0, api.ErrNone},
		{api.Msg{}, 2, api.ErrNone},
		{name(1, 2, 3, 4, 0), 0, api.ErrDup},
		{name(1, 2, 3, 4, 0), 1, api.ErrDup},
		{name(1, 2, 3, 4, 0), 3, api.ErrDup},
		{name(1, 2, 3, 4, 1), 0, api.ErrDup},
		{name(1, 2, 3, 4, 1), 1, api.ErrDup},
		{name(1, 2, 3, 4, 3), 3, api.ErrDup},
	} {
		if got, m, err := Copy(l, c.m, c.copies); len(got) > 0 || m != (api.Msg{}) || err != c.want {
			t.Errorf("%v copied as %d: %v and %v, error %d, want %d", c.m, c.copies, got, m, err, c.want)
		}
	}
	if got, m, err := Copy(nil, api.Msg{}, 1); len(got) > 0 || m != (api.Msg{}) || err != api.ErrNone {
		t.Errorf("in the empty set: %v and %v, error %d", got, m, err)
	}
}

// P14.3: copies of copies, and copies of messages of which others of the same execution are there.
func TestCopies(t *testing.T) {
	e := api.Envelope{Msg: name(0, 10, 1, 2, 0), To: 1, Kind: 3, A: 4, B: 5}
	other := api.Envelope{Msg: name(0, 10, 1, 3, 0), To: 1, Kind: 3, A: 4, B: 6}
	l, from := setOf(t, other, e), e.Msg
	want := []api.Envelope{e}
	for copies := 1; copies <= 10; copies++ {
		more, m, err := Copy(l, from, copies)
		if err != api.OK {
			t.Fatalf("copy %d: error %d", copies, err)
		}
		want = append(want, api.Envelope{Msg: name(0, 10, 1, 2, copies), To: 1, Kind: 3, A: 4, B: 5})
		l, from = more, m
	}
	if !slices.Equal(l, append(want, other)) {
		t.Errorf("the set is %v", l)
	}
}

// P14.4: the names of the messages to exactly this node, in the order of the set.
func TestTo(t *testing.T) {
	var l []api.Envelope
	for i, to := range []int{1, 0, math.MinInt, 1, -1, 11, 1, math.MaxInt, 0, -1} {
		l = append(l, api.Envelope{Msg: name(0, 0, 0, i, 0), To: to, Kind: 2, A: 3, B: 4})
	}
	for _, c := range []struct {
		node    int
		indices []int
	}{
		{0, []int{1, 8}}, {1, []int{0, 3, 6}}, {2, nil}, {3, nil}, {4, nil}, {11, []int{5}}, {12, nil},
		{-1, []int{4, 9}}, {-2, nil}, {math.MinInt, []int{2}}, {math.MaxInt, []int{7}}, {math.MaxInt - 1, nil},
	} {
		var want []api.Msg
		for _, i := range c.indices {
			want = append(want, name(0, 0, 0, i, 0))
		}
		if got := To(l, c.node); !slices.Equal(got, want) {
			t.Errorf("to node %d: %v, want %v", c.node, got, want)
		}
	}
	if got := To(nil, 0); len(got) > 0 {
		t.Errorf("in the empty set: %v", got)
	}
	// The sender is no receiver.
	if got := To([]api.Envelope{{Msg: name(3, 3, 3, 3, 3), To: 4, Kind: 3, A: 3, B: 3}}, 3); len(got) > 0 {
		t.Errorf("to the sender: %v", got)
	}
}

// The functions return, whatever they are given, although the chapter promises nothing here.
func TestOutsideTheDomain(t *testing.T) {
	sorted := contents(extremes()...)
	reversed := slices.Clone(sorted)
	slices.Reverse(reversed)
	for _, l := range [][]api.Envelope{reversed, {sorted[3], sorted[3]}, {sorted[3], sorted[3], sorted[1], {}, {}, sorted[7], sorted[3]}} {
		for _, e := range sorted {
			if _, err := Add(l, e); err != api.OK && err != api.ErrDup {
				t.Errorf("%v added to %v: error %d", e, l, err)
			}
			Find(l, e.Msg)
			Remove(l, e.Msg)
			Copy(l, e.Msg, 1)
			To(l, e.To)
		}
	}
}
