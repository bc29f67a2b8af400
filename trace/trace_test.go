package trace

import (
	"math"
	"slices"
	"testing"

	"simproof/api"
	"simproof/hash"
)

// msg returns the name of a message.
func msg(node, handler, count, index, copies int) api.Msg {
	return api.Msg{Cause: api.Cause{Node: node, Handler: handler, Count: count}, Index: index, Copy: copies}
}

// timer returns a step in which a timer of a node expires.
func timer(node, arg int, sent ...api.Msg) api.Step {
	return api.Step{Event: api.Event{Kind: api.EvTimer, Node: node, Arg: arg}, Sent: sent}
}

// about returns a step of an event that is about a message.
func about(kind, node int, m api.Msg, sent ...api.Msg) api.Step {
	return api.Step{Event: api.Event{Kind: kind, Node: node, Msg: m}, Sent: sent}
}

// visible returns the step as an observable one.
func visible(s api.Step) api.Step {
	s.Observable = true
	return s
}

// asked returns the step with some questions.
func asked(s api.Step, asks ...api.Ask) api.Step {
	s.Asks = asks
	return s
}

// pick returns the steps of a run at some positions.
func pick(run []api.Step, positions ...int) []api.Step {
	var l []api.Step
	for _, i := range positions {
		l = append(l, run[i])
	}
	return l
}

// full returns a step all of whose fields are used.
func full(node int) api.Step {
	q := api.Question{Cause: api.Cause{Node: node, Handler: 1, Count: 2}, Kind: api.QKeep, Index: 3}
	return api.Step{
		Event:      api.Event{Kind: api.EvDeliver, Node: node, Arg: -5, Msg: msg(7, 7, 7, 7, node)},
		Asks:       []api.Ask{{Q: q, Arity: 4, N: 3}, {Q: api.Question{}, Arity: -1, N: 9}},
		Observable: node%2 == 1,
		Sent:       []api.Msg{msg(node, 2, 3, 4, 5), msg(node, 2, 3, 5, 0)},
	}
}

// variants returns steps that differ from full(node) in one field each, but not in their node.
func variants(node int) []api.Step {
	var l []api.Step
	for _, change := range []func(s *api.Step){
		func(s *api.Step) { s.Event.Kind = api.EvDrop },
		func(s *api.Step) { s.Event.Arg = 5 },
		func(s *api.Step) { s.Event.Msg.Cause.Node++ },
		func(s *api.Step) { s.Event.Msg.Cause.Handler++ },
		func(s *api.Step) { s.Event.Msg.Cause.Count++ },
		func(s *api.Step) { s.Event.Msg.Index++ },
		func(s *api.Step) { s.Event.Msg.Copy++ },
		func(s *api.Step) { s.Asks = nil },
		func(s *api.Step) { s.Asks = s.Asks[:1] },
		func(s *api.Step) { s.Asks = append(s.Asks, api.Ask{}) },
		func(s *api.Step) { slices.Reverse(s.Asks) },
		func(s *api.Step) { s.Asks[0].Q.Cause.Node++ },
		func(s *api.Step) { s.Asks[0].Q.Cause.Handler++ },
		func(s *api.Step) { s.Asks[0].Q.Cause.Count++ },
		func(s *api.Step) { s.Asks[0].Q.Kind++ },
		func(s *api.Step) { s.Asks[0].Q.Index++ },
		func(s *api.Step) { s.Asks[0].Arity++ },
		func(s *api.Step) { s.Asks[1].N++ },
		func(s *api.Step) { s.Observable = !s.Observable },
		func(s *api.Step) { s.Sent = nil },
		func(s *api.Step) { s.Sent = s.Sent[1:] },
		func(s *api.Step) { s.Sent = append(s.Sent, api.Msg{}) },
		func(s *api.Step) { slices.Reverse(s.Sent) },
		func(s *api.Step) { s.Sent[0].Cause.Node++ },
		func(s *api.Step) { s.Sent[0].Cause.Handler++ },
		func(s *api.Step) { s.Sent[0].Cause.Count++ },
		func(s *api.Step) { s.Sent[1].Index++ },
		func(s *api.Step) { s.Sent[1].Copy++ },
	} {
		s := full(node)
		change(&s)
		l = append(l, s)
	}
	return l
}

// P17.1: the steps of a node are those whose events happen there, whatever their causes and messages are.
func TestProject(t *testing.T) {
	run := []api.Step{timer(1, 0), about(api.EvDeliver, 0, msg(1, 10, 0, 0, 0)), timer(1, 2, msg(0, 2, 0, 0, 0)), visible(timer(2, 1)), asked(timer(1, 0), api.Ask{}), full(0), timer(1, 0)}
	for _, c := range []struct {
		node int
		want []int
	}{
		{0, []int{1, 5}},
		{1, []int{0, 2, 4, 6}},
		{2, []int{3}},
		{3, nil}, {7, nil}, {-1, nil}, {math.MinInt, nil}, {math.MaxInt, nil},
	} {
		if got, want := runText(Project(run, c.node)), runText(pick(run, c.want...)); got != want {
			t.Errorf("node %d has\n%s\nwant\n%s", c.node, got, want)
		}
	}
	if len(Project(nil, 0)) > 0 || len(Project([]api.Step{}, 0)) > 0 {
		t.Error("the empty run has steps")
	}
	for _, n := range []int{math.MinInt, -1, api.MaxNodes, math.MaxInt} {
		odd := []api.Step{timer(0, 0), timer(n, 1), timer(n, 0)}
		if got, want := runText(Project(odd, n)), runText(odd[1:]); got != want {
			t.Errorf("node %d has\n%s\nwant\n%s", n, got, want)
		}
	}
}

// P17.1: the observable steps are those of all nodes.
func TestObservable(t *testing.T) {
	run := []api.Step{visible(timer(1, 0)), timer(0, 0), full(3), visible(about(api.EvCrash, 0, api.Msg{})), full(2), timer(1, 0), visible(timer(1, 0))}
	if got, want := runText(Observable(run)), runText(pick(run, 0, 2, 3, 6)); got != want {
		t.Errorf("observable are\n%s\nwant\n%s", got, want)
	}
	for _, run := range [][]api.Step{nil, {}, {timer(0, 0)}, {about(api.EvInvoke, 0, api.Msg{}), full(2)}} {
		if got := Observable(run); len(got) > 0 {
			t.Errorf("observable are\n%s", runText(got))
		}
	}
}

// P17.2: the chapter's example, runs of no and one step, and steps without an order.
func TestNormalOfIndependentSteps(t *testing.T) {
	run := []api.Step{timer(1, 0), timer(0, 0)}
	checkNormal(t, run, pick(run, 1, 0))
	checkNormal(t, nil, nil)
	checkNormal(t, []api.Step{}, nil)
	checkNormal(t, []api.Step{{}}, []api.Step{{}})
	checkNormal(t, []api.Step{full(3)}, []api.Step{full(3)})
	run = []api.Step{timer(3, 0), about(api.EvCrash, 0, api.Msg{}), visible(timer(2, 9)), about(api.EvStart, 5, api.Msg{}), timer(-1, 7)}
	checkNormal(t, run, pick(run, 3, 4, 2, 0, 1))
	run = nil
	for i := range 200 {
		run = append(run, timer(199-i, i))
	}
	want := slices.Clone(run)
	slices.Reverse(want)
	checkNormal(t, run, want)
}

// P17.2: every number of the events decides, in the order of package names, and so do extreme ones.
func TestNormalComparesEvents(t *testing.T) {
	for _, pair := range [][2]api.Event{
		{{Kind: 1, Node: 9}, {Kind: 2, Node: 3}},
		{{Kind: math.MinInt, Node: 9}, {Kind: math.MaxInt, Node: 3}},
		{{Kind: 4, Node: 3, Arg: 9}, {Kind: 4, Node: 4, Arg: 0}},
		{{Kind: 4, Node: math.MinInt}, {Kind: 4, Node: math.MaxInt}},
		{{Kind: 0, Node: -1, Msg: msg(9, 9, 9, 9, 9)}, {Kind: 0, Node: 0}},
	} {
		first, second := api.Step{Event: pair[0]}, api.Step{Event: pair[1]}
		want := []api.Step{first, second}
		checkNormal(t, want, want)
		checkNormal(t, []api.Step{second, first}, want)
		checkEquivalent(t, want, []api.Step{second, first}, true)
	}
}

// P17.2: a step stays behind those that happen before it, for each reason, and lets those pass that come before it otherwise.
func TestNormalKeepsDependentSteps(t *testing.T) {
	m := msg(5, 2, 0, 0, 0)
	for _, run := range [][]api.Step{
		{timer(0, 1), timer(0, 0)},
		{visible(timer(1, 0)), visible(timer(0, 0))},
		{timer(5, 0, m), about(api.EvDeliver, 0, m)},
		{timer(5, 0, m), about(api.EvDeliver, 0, msg(5, 2, 0, 0, 3))},
		{about(api.EvDup, 7, m), timer(5, 0, m)},
		{timer(5, 0, m), about(api.EvDeliver, 3, m, msg(3, 10, 0, 0, 0)), about(api.EvDeliver, 0, msg(3, 10, 0, 0, 0))},
	} {
		checkNormal(t, run, run)
		checkEquivalent(t, run, append(slices.Clone(run[1:]), run[0]), false)
	}
	// The step of node 0 would come first, but is behind a chain that it is the end of.
	run := []api.Step{timer(9, 9), timer(5, 1, m), timer(4, 0), visible(about(api.EvTimer, 3, m)), about(api.EvDeliver, 2, m), visible(timer(2, 0)), timer(0, 0), timer(2, 1)}
	checkNormal(t, run, pick(run, 6, 3, 2, 1, 4, 5, 7, 0))
	// Which steps can be next is decided anew after each step.
	run = []api.Step{timer(3, 0), timer(3, 1), timer(2, 5), visible(timer(1, 0)), visible(timer(0, 0))}
	checkNormal(t, run, pick(run, 3, 4, 2, 0, 1))
	run = []api.Step{visible(timer(1, 0)), timer(2, 0), visible(timer(0, 0)), timer(1, 1)}
	checkNormal(t, run, pick(run, 0, 2, 3, 1))
}

// P17.2: questions and answers decide nothing, because steps whose events are equal are of one node; neither does what package names does not compare.
func TestNormalKeepsStepsOfOneNode(t *testing.T) {
	for _, v := range variants(1) {
		for _, run := range [][]api.Step{{full(1), v}, {v, full(1)}} {
			checkNormal(t, run, run)
			other := append([]api.Step{about(api.EvCrash, 3, api.Msg{})}, run...)
			checkNormal(t, other, pick(other, 1, 2, 0))
		}
		checkEquivalent(t, []api.Step{full(1), v}, []api.Step{v, full(1)}, false)
	}
	same := []api.Step{full(1), full(1), full(1)}
	checkNormal(t, same, same)
	checkEquivalent(t, same, same, true)
	checkEquivalent(t, same, same[:2], false)
}

// P17.2: equivalent runs have the same steps, whose fields are all equal.
func TestEquivalentRunsHaveEqualSteps(t *testing.T) {
	for _, v := range variants(1) {
		a, b := []api.Step{timer(0, 0), full(1), timer(2, 0)}, []api.Step{timer(0, 0), v, timer(2, 0)}
		checkEquivalent(t, a, b, false)
		checkEquivalent(t, a, pick(b, 2, 1, 0), false)
		checkEquivalent(t, b, pick(b, 2, 1, 0), true)
		checkEquivalent(t, a, pick(a, 1, 2, 0), true)
	}
}

// P17.2: runs of different lengths are not equivalent, and neither are runs with other steps of other nodes.
func TestEquivalentRunsHaveOneLength(t *testing.T) {
	run := []api.Step{timer(2, 0), timer(1, 0), timer(0, 0)}
	for n := range 4 {
		for m := range 4 {
			checkEquivalent(t, run[:n], run[:m], n == m)
		}
	}
	checkEquivalent(t, nil, []api.Step{}, true)
	checkEquivalent(t, run, []api.Step{timer(2, 0), timer(1, 0), timer(1, 0)}, false)
	checkEquivalent(t, run, []api.Step{timer(2, 0), timer(1, 0), timer(3, 0)}, false)
	checkEquivalent(t, run[:1], run[1:2], false)
	checkEquivalent(t, run, append(slices.Clone(run), api.Step{}), false)
}

// P17.2: a run is equivalent to itself with other independent steps between, not with exchanged dependent ones.
func TestEquivalentByExchanges(t *testing.T) {
	m := msg(0, 2, 0, 0, 0)
	run := []api.Step{timer(0, 0, m), timer(2, 0), about(api.EvDeliver, 1, m), timer(2, 1), visible(timer(0, 1)), timer(1, 0)}
	for _, c := range []struct {
		order []int
		want  bool
	}{
		{[]int{0, 1, 2, 3, 4, 5}, true},
		{[]int{1, 0, 2, 3, 4, 5}, true},
		{[]int{1, 3, 0, 4, 2, 5}, true},
		{[]int{0, 4, 2, 5, 1, 3}, true},
		{[]int{0, 2, 5, 1, 4, 3}, true},
		{[]int{0, 3, 2, 1, 4, 5}, false}, // node 2
		{[]int{4, 1, 2, 3, 0, 5}, false}, // node 0
		{[]int{2, 0, 1, 3, 4, 5}, false}, // the message
		{[]int{1, 3, 2, 0, 4, 5}, false},
		{[]int{0, 1, 5, 2, 3, 4}, false}, // node 1
	} {
		other := pick(run, c.order...)
		checkEquivalent(t, run, other, c.want)
		if (Key(run) == Key(other)) != c.want {
			t.Errorf("the keys of %v: %d and %d", c.order, Key(run), Key(other))
		}
	}
}

// P17.3: the words of each step, in the order of the chapter.
func TestKeyWords(t *testing.T) {
	one := api.Step{
		Event:      api.Event{Kind: 1, Node: 2, Arg: 3, Msg: msg(4, 5, 6, 7, 8)},
		Asks:       []api.Ask{{Q: api.Question{Cause: api.Cause{Node: 9, Handler: 10, Count: 11}, Kind: 12, Index: 13}, Arity: 14, N: 15}, {Arity: 16, N: -17}},
		Observable: true,
		Sent:       []api.Msg{msg(18, 19, 20, 21, 22), msg(23, 24, 25, 26, 27), {}},
	}
	words := []int{1, 2, 3, 4, 5, 6, 7, 8, 2, 9, 10, 11, 12, 13, 14, 15, 0, 0, 0, 0, 0, 16, -17, 1, 3, 18, 19, 20, 21, 22, 23, 24, 25, 26, 27, 0, 0, 0, 0, 0}
	for _, c := range []struct {
		run   []api.Step
		words []int
	}{
		{nil, nil},
		{[]api.Step{}, nil},
		{[]api.Step{{}}, make([]int, 11)},
		{[]api.Step{one}, words},
		{[]api.Step{one, one}, slices.Concat(words, words)},
		{[]api.Step{timer(-1, -2)}, []int{4, -1, -2, 0, 0, 0, 0, 0, 0, 0, 0}},
		{[]api.Step{timer(math.MinInt, math.MaxInt)}, []int{4, math.MinInt, math.MaxInt, 0, 0, 0, 0, 0, 0, 0, 0}},
		// The normal form counts.
		{[]api.Step{timer(7, 0), one}, append(slices.Clone(words), 4, 7, 0, 0, 0, 0, 0, 0, 0, 0, 0)},
		{[]api.Step{visible(timer(7, 0)), one}, append([]int{4, 7, 0, 0, 0, 0, 0, 0, 0, 1, 0}, words...)},
	} {
		if got, want := Key(c.run), hash.Sum("trace", c.words...); got != want {
			t.Errorf("the key is %d, want %d, of the run\n%s", got, want, runText(c.run))
		}
	}
}

// P17.3: each field of a step has a part in the key.
func TestKeysDiffer(t *testing.T) {
	runs := [][]api.Step{nil, {full(1)}, {full(1), full(1)}}
	for _, v := range variants(1) {
		runs = append(runs, []api.Step{v}, []api.Step{v, full(1)}, []api.Step{full(1), v})
	}
	seen := map[uint64]string{}
	for _, run := range runs {
		key := Key(run)
		if seen[key] != "" {
			t.Errorf("the same key %d for the runs\n%s\nand\n%s", key, seen[key], runText(run))
		}
		seen[key] = runText(run) + "."
	}
}

// P17.4: the classes in the order of their least indices, whose indices increase.
func TestClasses(t *testing.T) {
	a, b := []api.Step{timer(0, 0), timer(1, 0), timer(2, 0)}, []api.Step{timer(0, 1), timer(0, 0)}
	c, d := pick(a, 2, 0, 1), pick(a, 1, 0, 2)
	e := pick(b, 1, 0)
	for _, x := range []struct {
		runs [][]api.Step
		want [][]int
	}{
		{nil, nil},
		{[][]api.Step{}, nil},
		{[][]api.Step{nil}, [][]int{{0}}},
		{[][]api.Step{nil, {}, nil}, [][]int{{0, 1, 2}}},
		{[][]api.Step{a}, [][]int{{0}}},
		{[][]api.Step{a, a}, [][]int{{0, 1}}},
		{[][]api.Step{a, b}, [][]int{{0}, {1}}},
		{[][]api.Step{b, a}, [][]int{{0}, {1}}},
		{[][]api.Step{a, c, d}, [][]int{{0, 1, 2}}},
		{[][]api.Step{d, b, c, e, a, b}, [][]int{{0, 2, 4}, {1, 5}, {3}}},
		{[][]api.Step{e, nil, b, c, e, {}, a[:2], d, a[:1]}, [][]int{{0, 4}, {1, 5}, {2}, {3, 7}, {6}, {8}}},
	} {
		checkClasses(t, x.runs, x.want)
	}
}

// sameKeys returns runs of one step each that are not equivalent, but have the same key: their Args differ, and the next word makes up for it.
func sameKeys(t *testing.T) [][]api.Step {
	t.Helper()
	mix := func(state uint64, word int) uint64 {
		m := (state ^ uint64(word)) * 0x9E3779B97F4A7C15
		return m ^ m>>32
	}
	start := uint64(0)
	for _, w := range []int{0x6563617274, 5, 11, api.EvTimer, 0} { // the label and its length, the number of words, and the first words
		start = mix(start, w)
	}
	var runs [][]api.Step
	for arg := range 3 {
		s := timer(0, arg)
		s.Event.Msg.Cause.Node = int(mix(start, arg) ^ mix(start, 0))
		runs = append(runs, []api.Step{s})
		if Key(runs[arg]) != Key(runs[0]) {
			t.Fatalf("the keys of the runs differ:\n%s\nand\n%s", runText(runs[arg]), runText(runs[0]))
		}
	}
	return runs
}

// P17.2, P17.4: runs with the same key need not be equivalent.
func TestClassesWithOneKey(t *testing.T) {
	l := sameKeys(t)
	for i, a := range l {
		for k, b := range l {
			checkEquivalent(t, a, b, i == k)
		}
	}
	checkClasses(t, l, [][]int{{0}, {1}, {2}})
	checkClasses(t, [][]api.Step{l[2], l[0], l[2], l[1], l[0], nil, l[1], l[2]}, [][]int{{0, 2, 7}, {1, 4}, {3, 6}, {5}})
}

// The functions return, whatever they are given, although the chapter promises nothing here.
func TestOutsideTheDomain(t *testing.T) {
	long := make([]api.Step, 1<<17)
	for i := range long {
		long[i].Event.Node = -i
	}
	for _, run := range [][]api.Step{long[:501], long[:api.MaxSteps+2], long} {
		if got := Normal(run); len(got) != len(run) {
			t.Errorf("the normal form of %d steps has %d", len(run), len(got))
		}
		if !Equivalent(run, run) || Equivalent(run, run[1:]) || Key(run) != Key(Normal(run)) {
			t.Errorf("%d steps are not equivalent to themselves", len(run))
		}
		checkClasses(t, [][]api.Step{run, run[1:], run}, [][]int{{0, 2}, {1}})
		if len(Project(run, -500)) != 1 || len(Observable(run)) > 0 {
			t.Errorf("%d steps have other ones of node -500, or observable ones", len(run))
		}
	}
}
