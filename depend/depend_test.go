package depend

import (
	"math"
	"slices"
	"testing"

	"simproof/api"
)

// msg returns the name of a message.
func msg(node, handler, count, index, copies int) api.Msg {
	return api.Msg{Cause: api.Cause{Node: node, Handler: handler, Count: count}, Index: index, Copy: copies}
}

// timer returns a step in which a timer of a node expires.
func timer(node int, sent ...api.Msg) api.Step {
	return api.Step{Event: api.Event{Kind: api.EvTimer, Node: node}, Sent: sent}
}

// about returns a step of an event that is about a message.
func about(kind, node int, m api.Msg, sent ...api.Msg) api.Step {
	return api.Step{Event: api.Event{Kind: kind, Node: node, Msg: m}, Sent: sent}
}

// visible returns the step as an observable one.
func visible(s api.Step) api.Step {
	s.Observable = true
	return s
}

// checkPair fails the test unless two steps are dependent, or independent, in both orders.
func checkPair(t *testing.T, a, b api.Step, want bool) {
	t.Helper()
	if Dependent(a, b) != want || Dependent(b, a) != want {
		t.Errorf("%+v and %+v: %t and %t, want %t", a, b, Dependent(a, b), Dependent(b, a), want)
	}
}

// P16.1, P16.5: the steps of one node are dependent, whatever their kinds are, those of different nodes are not for this reason.
func TestOneNode(t *testing.T) {
	numbers := []int{math.MinInt, -1, 0, 1, 11, 12, math.MaxInt}
	for i, n := range numbers {
		for kind := -1; kind <= api.EvCrash+1; kind++ {
			a := about(kind, n, msg(3, 10, 0, 0, 0))
			checkPair(t, a, a, true)
			checkPair(t, a, timer(n), true)
			for k, other := range numbers {
				checkPair(t, a, timer(other), i == k)
			}
		}
	}
}

// P16.1: the Arg of an event, its message's sender and the questions that are asked do not matter.
func TestWhatDoesNotMatter(t *testing.T) {
	q := api.Ask{Q: api.Question{Cause: api.Cause{Node: 1, Handler: 2, Count: 3}, Kind: api.QDraw}, Arity: 2, N: 1}
	a := api.Step{Event: api.Event{Kind: api.EvTimer, Node: 0, Arg: 5, Msg: msg(1, 2, 3, 0, 0)}, Asks: []api.Ask{q}, Sent: []api.Msg{msg(1, 2, 3, 4, 0)}}
	b := api.Step{Event: api.Event{Kind: api.EvTimer, Node: 1, Arg: 5, Msg: msg(1, 2, 3, 0, 0)}, Asks: []api.Ask{q}, Sent: []api.Msg{msg(1, 2, 3, 4, 0)}}
	checkPair(t, a, b, false)
	// The delivery of a message does not depend on others from the same execution, and neither do two deliveries on each other.
	b.Event = api.Event{Kind: api.EvDeliver, Node: 1, Msg: msg(0, 2, 0, 1, 0)}
	a.Sent = []api.Msg{msg(0, 2, 0, 0, 0), msg(0, 2, 0, 2, 0)}
	checkPair(t, a, b, false)
	checkPair(t, about(api.EvDeliver, 0, msg(3, 10, 0, 0, 0)), about(api.EvDeliver, 1, msg(3, 10, 0, 0, 0)), false)
	checkPair(t, about(api.EvDup, 0, msg(3, 10, 0, 0, 0)), about(api.EvDeliver, 1, msg(3, 10, 0, 0, 1)), false)
	checkPair(t, timer(0, msg(0, 2, 0, 0, 0)), timer(1, msg(0, 2, 0, 0, 0)), false)
}

// P16.1, P16.5: two observable steps are dependent, one of them is not enough.
func TestObservable(t *testing.T) {
	for kind := -1; kind <= api.EvCrash+1; kind++ {
		a, b := about(kind, 0, api.Msg{}), timer(1)
		checkPair(t, a, b, false)
		checkPair(t, visible(a), b, false)
		checkPair(t, a, visible(b), false)
		checkPair(t, visible(a), visible(b), true)
	}
}

// P16.1: deliveries, drops and duplications consume messages, events of other kinds do not.
func TestKinds(t *testing.T) {
	m := msg(2, 10, 3, 4, 0)
	for _, kind := range []int{math.MinInt, -1, 0, api.EvStart, api.EvInvoke, api.EvTimer, api.EvCrash, 8, math.MaxInt} {
		checkPair(t, timer(0, m), about(kind, 1, m), false)
	}
	for _, kind := range []int{api.EvDeliver, api.EvDrop, api.EvDup} {
		checkPair(t, timer(0, m), about(kind, 1, m), true)
		checkPair(t, about(kind, 1, m), timer(0), false)
	}
}

// P16.1: the zero message can be sent and consumed like any other one, and a step that consumes nothing does not stand for it.
func TestZeroMessage(t *testing.T) {
	sends := timer(0, api.Msg{})
	checkPair(t, sends, about(api.EvDeliver, 1, api.Msg{}), true)
	checkPair(t, sends, timer(1), false)
	checkPair(t, sends, timer(1, api.Msg{}), false)
	checkPair(t, timer(0), about(api.EvDeliver, 1, api.Msg{}), false)
}

// P16.1, P16.5: every number of the message counts but its Copy. Among the messages sent, only one with the Copy 0 is the original.
func TestMessageNames(t *testing.T) {
	sent := msg(2, 12, 3, 4, 0)
	for _, copies := range []int{math.MinInt, -1, 0, 1, 2, 10, math.MaxInt} {
		m, other := sent, sent
		m.Copy, other.Copy = copies, copies
		for _, kind := range []int{api.EvDeliver, api.EvDrop, api.EvDup} {
			checkPair(t, timer(0, sent), about(kind, 1, m), true)
			// The step sent something with this very name, but it is no original.
			checkPair(t, timer(0, m), about(kind, 1, m), copies == 0)
			checkPair(t, timer(0, m), about(kind, 1, sent), copies == 0)
		}
		for _, change := range []func(m *api.Msg){
			func(m *api.Msg) { m.Cause.Node = 1 },
			func(m *api.Msg) { m.Cause.Handler = 13 },
			func(m *api.Msg) { m.Cause.Count = 2 },
			func(m *api.Msg) { m.Index = 5 },
			func(m *api.Msg) { m.Index = -4 },
		} {
			other = m
			change(&other)
			checkPair(t, timer(0, sent), about(api.EvDeliver, 1, other), false)
		}
	}
}

// P16.1: the message can be anywhere among those sent, also several times, and the two steps can be connected in both directions.
func TestManyMessages(t *testing.T) {
	var all []api.Msg
	for i := range 2 * api.MaxSends {
		all = append(all, msg(0, 10, 0, i, 0))
	}
	for _, m := range all {
		checkPair(t, timer(0, all...), about(api.EvDeliver, 1, m), true)
	}
	checkPair(t, timer(0, all...), about(api.EvDeliver, 1, msg(0, 10, 0, len(all), 0)), false)
	checkPair(t, timer(0, all[0], all[0]), about(api.EvDrop, 1, all[0]), true)
	checkPair(t, about(api.EvDup, 0, all[0], all[1]), about(api.EvDup, 1, all[1], all[0]), true)
	checkPair(t, about(api.EvDup, 0, all[0], all[1]), about(api.EvDup, 1, all[0], all[1]), false)
	// A step can send what it consumes itself.
	checkPair(t, about(api.EvDeliver, 0, all[0], all[0]), about(api.EvDeliver, 1, all[1], all[1]), false)
}

// pairsOf returns the pairs of positions of which the first one comes before the second one in the order of a run.
func pairsOf(run []api.Step) [][2]int {
	var l [][2]int
	o := Order(run)
	for i := range run {
		for k := range run {
			if o.Less(i, k) {
				l = append(l, [2]int{i, k})
			}
		}
	}
	return l
}

// checkShape fails the test unless a run has some order and some races.
func checkShape(t *testing.T, run []api.Step, order, races [][2]int) {
	t.Helper()
	if got := pairsOf(run); !slices.Equal(got, order) {
		t.Errorf("the order is %v, want %v, in the run\n%s", got, order, runText(run))
	}
	if got := Race(run); !slices.Equal(got, races) {
		t.Errorf("the races are %v, want %v, in the run\n%s", got, races, runText(run))
	}
	checkRun(t, run)
}

// P16.2, P16.4: the chapter's examples.
func TestExamples(t *testing.T) {
	m := msg(0, 2, 0, 0, 0)
	checkShape(t, []api.Step{timer(0, m), about(api.EvDeliver, 1, m)}, [][2]int{{0, 1}}, nil)
	checkShape(t, []api.Step{timer(0), timer(0)}, [][2]int{{0, 1}}, [][2]int{{0, 1}})
	checkShape(t, []api.Step{timer(0, m), about(api.EvDeliver, 0, m)}, [][2]int{{0, 1}}, nil)
	checkShape(t, []api.Step{timer(0, m), timer(0)}, [][2]int{{0, 1}}, [][2]int{{0, 1}})
}

// P16.2, P16.4: no steps, one step, and steps that are all independent.
func TestEmptyOrders(t *testing.T) {
	checkShape(t, nil, nil, nil)
	checkShape(t, []api.Step{}, nil, nil)
	checkShape(t, []api.Step{{}}, nil, nil)
	checkShape(t, []api.Step{visible(about(api.EvDeliver, 0, api.Msg{}, api.Msg{}))}, nil, nil)
	checkShape(t, []api.Step{timer(3), visible(timer(1)), timer(2), timer(0)}, nil, nil)
}

// P16.2, P16.4, P16.8: the steps of a node, and the observable ones, are in one line, of which only neighbours race.
func TestLines(t *testing.T) {
	all := [][2]int{{0, 1}, {0, 2}, {0, 3}, {1, 2}, {1, 3}, {2, 3}}
	neighbours := [][2]int{{0, 1}, {1, 2}, {2, 3}}
	checkShape(t, []api.Step{timer(5), timer(5), timer(5), timer(5)}, all, neighbours)
	checkShape(t, []api.Step{visible(timer(3)), visible(timer(1)), visible(timer(2)), visible(timer(0))}, all, neighbours)
	// A step of another node is not part of the line.
	checkShape(t, []api.Step{timer(5), timer(4), timer(5), timer(5)}, [][2]int{{0, 2}, {0, 3}, {2, 3}}, [][2]int{{0, 2}, {2, 3}})
}

// P16.2: the order goes on from step to step, through messages, nodes and observations.
func TestTransitive(t *testing.T) {
	m, n := msg(0, 2, 0, 0, 0), msg(1, 10, 0, 0, 0)
	run := []api.Step{
		timer(0, m),                              // 0
		timer(2),                                 // 1
		about(api.EvDeliver, 1, m, n),            // 2: after 0
		visible(about(api.EvDrop, 2, n)),         // 3: after 0, 1 and 2
		timer(4),                                 // 4
		visible(timer(3)),                        // 5: after 0, 1, 2 and 3
		about(api.EvDup, 4, m),                   // 6: after 0 and 4
		about(api.EvDup, 5, msg(1, 10, 0, 0, 7)), // 7: after 0 and 2
	}
	checkShape(t, run,
		[][2]int{{0, 2}, {0, 3}, {0, 5}, {0, 6}, {0, 7}, {1, 3}, {1, 5}, {2, 3}, {2, 5}, {2, 7}, {3, 5}, {4, 6}},
		[][2]int{{1, 3}, {3, 5}, {4, 6}})
}

// P16.4: a pair with a step between does not race, whether the step is of the node or of another one.
func TestStepsBetween(t *testing.T) {
	m, n := msg(0, 2, 0, 0, 0), msg(1, 10, 0, 0, 0)
	// Both steps of node 0 are connected by the messages alone.
	checkShape(t, []api.Step{timer(0, m), about(api.EvDeliver, 1, m, n), about(api.EvDeliver, 0, n)}, [][2]int{{0, 1}, {0, 2}, {1, 2}}, nil)
	// A step between that is concurrent to one of them does not count.
	checkShape(t, []api.Step{timer(0, m), about(api.EvDeliver, 1, m, n), timer(0)}, [][2]int{{0, 1}, {0, 2}}, [][2]int{{0, 2}})
	checkShape(t, []api.Step{timer(0), timer(1, n), about(api.EvDeliver, 0, n)}, [][2]int{{0, 2}, {1, 2}}, [][2]int{{0, 2}})
	// Steps that are observable, and of one node, with an observable one between.
	checkShape(t, []api.Step{visible(timer(0)), visible(timer(1)), visible(timer(0))}, [][2]int{{0, 1}, {0, 2}, {1, 2}}, [][2]int{{0, 1}, {1, 2}})
	checkShape(t, []api.Step{visible(timer(0)), timer(1), visible(timer(0))}, [][2]int{{0, 2}}, [][2]int{{0, 2}})
}

// P16.4: a message that passes from the earlier to the later step keeps them from racing, also if there are other reasons; one in the other direction does not.
func TestMessagesAndRaces(t *testing.T) {
	m, pair := msg(0, 2, 0, 0, 0), [][2]int{{0, 1}}
	for _, kind := range []int{api.EvDeliver, api.EvDrop, api.EvDup} {
		for _, copies := range []int{0, 1, -1} {
			x := m
			x.Copy = copies
			checkShape(t, []api.Step{timer(0, m), about(kind, 1, x)}, pair, nil)
			checkShape(t, []api.Step{visible(timer(0, m)), visible(about(kind, 1, x))}, pair, nil)
			checkShape(t, []api.Step{timer(0, m), about(kind, 0, x)}, pair, nil)
			checkShape(t, []api.Step{about(kind, 1, x), timer(0, m)}, pair, pair)
			checkShape(t, []api.Step{about(kind, 0, x), timer(0, m)}, pair, pair)
			checkShape(t, []api.Step{about(kind, 1, x, m), about(kind, 0, x, m)}, pair, nil)
		}
	}
	// A duplicate that was sent under its own name is none that the later step consumes.
	x := msg(0, 2, 0, 0, 1)
	checkShape(t, []api.Step{timer(0, x), about(api.EvDeliver, 1, x)}, nil, nil)
	checkShape(t, []api.Step{timer(0, x), about(api.EvDeliver, 0, x)}, pair, pair)
}

// P16.4: the copies of a message that one node receives race with each other, not with the step that sent it.
func TestCopies(t *testing.T) {
	m, first, second := msg(0, 2, 0, 0, 0), msg(0, 2, 0, 0, 1), msg(0, 2, 0, 0, 2)
	run := []api.Step{timer(0, m), about(api.EvDup, 1, m), about(api.EvDup, 1, first), about(api.EvDeliver, 1, second), about(api.EvDrop, 1, m)}
	checkShape(t, run, [][2]int{{0, 1}, {0, 2}, {0, 3}, {0, 4}, {1, 2}, {1, 3}, {1, 4}, {2, 3}, {2, 4}, {3, 4}}, [][2]int{{1, 2}, {2, 3}, {3, 4}})
}

// P16.4: a message can be sent by several steps, and the pairs are in lexicographic order.
func TestOrderOfRaces(t *testing.T) {
	m := msg(0, 2, 0, 0, 0)
	checkShape(t, []api.Step{timer(0, m), timer(1, m), about(api.EvDeliver, 2, m)}, [][2]int{{0, 2}, {1, 2}}, nil)
	checkShape(t, []api.Step{timer(0), timer(1), timer(2), visible(timer(2)), visible(timer(0)), timer(1)},
		[][2]int{{0, 4}, {1, 5}, {2, 3}, {2, 4}, {3, 4}}, [][2]int{{0, 4}, {1, 5}, {2, 3}, {3, 4}})
	checkShape(t, []api.Step{timer(9), timer(8), timer(7), timer(7), timer(8), timer(9)},
		[][2]int{{0, 5}, {1, 4}, {2, 3}}, [][2]int{{0, 5}, {1, 4}, {2, 3}})
}

// P16.3: positions that do not have a next one, in runs of all lengths.
func TestSwapPositions(t *testing.T) {
	for n := range 6 {
		var run []api.Step
		for i := range n {
			run = append(run, timer(i))
		}
		for _, i := range []int{math.MinInt, math.MinInt + 1, -n, -2, -1, n - 1, n, n + 1, math.MaxInt - 2, math.MaxInt - 1, math.MaxInt} {
			if got, err := Swap(run, i); len(got) > 0 || err != api.ErrArg {
				t.Errorf("position %d of %d steps: %v, error %d", i, n, got, err)
			}
		}
		for i := range n - 1 {
			got, err := Swap(run, i)
			if err != api.OK || len(got) != n {
				t.Fatalf("position %d of %d steps: %v, error %d", i, n, got, err)
			}
			for k, s := range got {
				want := k
				if k == i {
					want = i + 1
				} else if k == i+1 {
					want = i
				}
				if s.Event.Node != want {
					t.Errorf("after the exchange at %d, step %d is of node %d, want %d", i, k, s.Event.Node, want)
				}
			}
		}
	}
}

// P16.3: the position comes before the dependence; each reason of dependence, in both directions.
func TestSwapDependent(t *testing.T) {
	m := msg(0, 2, 0, 0, 0)
	for _, pair := range [][2]api.Step{
		{timer(0), timer(0)},
		{visible(timer(0)), visible(timer(1))},
		{timer(0, m), about(api.EvDeliver, 1, m)},
		{about(api.EvDrop, 1, msg(0, 2, 0, 0, 3)), timer(0, m)},
	} {
		for _, run := range [][]api.Step{{pair[0], pair[1]}, {pair[1], pair[0]}, {timer(7), pair[0], pair[1], timer(8)}} {
			at := len(run)/2 - 1
			if got, err := Swap(run, at); len(got) > 0 || err != api.ErrOrder {
				t.Errorf("%v, error %d, in the run\n%s", got, err, runText(run))
			}
			if got, err := Swap(run, len(run)-1); len(got) > 0 || err != api.ErrArg {
				t.Errorf("%v, error %d, in the run\n%s", got, err, runText(run))
			}
		}
	}
}

// P16.3: the steps keep everything that belongs to them.
func TestSwapKeepsSteps(t *testing.T) {
	full := func(node int) api.Step {
		q := api.Question{Cause: api.Cause{Node: node, Handler: 1, Count: 2}, Kind: api.QKeep, Index: 3}
		return api.Step{
			Event:      api.Event{Kind: api.EvDeliver, Node: node, Arg: -5, Msg: msg(7, 7, 7, 7, node)},
			Asks:       []api.Ask{{Q: q, Arity: 4, N: 3}, {Q: api.Question{}, Arity: -1, N: 9}},
			Observable: node == 1,
			Sent:       []api.Msg{msg(node, 2, 3, 4, 5), msg(node, 2, 3, 5, 0)},
		}
	}
	run := []api.Step{full(0), full(1), full(2), full(3)}
	for i := range 3 {
		want := slices.Clone(run)
		want[i], want[i+1] = run[i+1], run[i]
		if got, err := Swap(run, i); err != api.OK || runText(got) != runText(want) {
			t.Errorf("position %d: error %d\n%s\nwant\n%s", i, err, runText(got), runText(want))
		}
	}
}

// The functions return, whatever they are given, although the chapter promises nothing here.
func TestOutsideTheDomain(t *testing.T) {
	for _, n := range []int{api.MaxSteps + 1, 1 << 20} {
		run := make([]api.Step, n)
		if o := Order(run); o.Less(0, 1) || len(o.Covers()) > 0 || len(Race(run)) > 0 {
			t.Errorf("%d steps have an order", n)
		}
		if got, err := Swap(run, n-2); len(got) > 0 || err != api.ErrOrder {
			t.Errorf("the last ones of %d steps: %d steps, error %d", n, len(got), err)
		}
	}
}
