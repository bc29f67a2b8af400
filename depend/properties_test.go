package depend

import (
	"math/rand"
	"slices"
	"testing"

	"simproof/api"
	"simproof/compile"
	"simproof/poset"
	"simproof/world"
)

// universe returns steps that are dependent for each reason, for several and for none.
func universe() []api.Step {
	m, n := msg(0, 2, 0, 0, 0), msg(1, 10, 1, 2, 0)
	first, second := msg(0, 2, 0, 0, 1), msg(1, 10, 1, 2, 2)
	return []api.Step{
		timer(0), timer(1), visible(timer(2)), visible(timer(0)),
		timer(0, m), timer(2, n, m), timer(1, first),
		about(api.EvDeliver, 1, m), about(api.EvDup, 1, first, n), about(api.EvDrop, 3, second),
		visible(about(api.EvDeliver, 2, n, second)), about(api.EvInvoke, 3, m), about(api.EvDeliver, 0, m, m),
	}
}

// someMsg returns a random message, mostly the original of one of a few.
func someMsg(r *rand.Rand) api.Msg {
	return msg(r.Intn(2), 10, r.Intn(2), r.Intn(2), max(0, r.Intn(6)-3))
}

// someStep returns a random step at one of some nodes. It is not visible in most cases.
func someStep(r *rand.Rand, nodes int) api.Step {
	s := about(r.Intn(9), r.Intn(nodes), someMsg(r))
	s.Observable = r.Intn(6) == 0
	for range max(0, r.Intn(6)-3) {
		s.Sent = append(s.Sent, someMsg(r))
	}
	for range max(0, r.Intn(4)-2) {
		s.Asks = append(s.Asks, api.Ask{Q: api.Question{Kind: 1 + r.Intn(3), Index: r.Intn(3)}, Arity: 2, N: r.Intn(2)})
	}
	return s
}

// someRun returns a random run of arbitrary steps.
func someRun(r *rand.Rand, most int) []api.Step {
	nodes := 1 + r.Intn(12)
	var run []api.Step
	for range r.Intn(most + 1) {
		run = append(run, someStep(r, nodes))
	}
	return run
}

// config returns a configuration whose runs have messages that are forwarded, answered, lost and duplicated, and requests at each of some nodes.
func config(t *testing.T, nodes int) api.Config {
	t.Helper()
	p, e := compile.Build(`durable d; volatile v;
on start { timer 0; send 0, 1, self, 1; }
on request { v = draw(2); reply id, d; send nodes - 1, 2, a, id; }
on timer 0 { d = d + 1; send nodes - 1, 1, d, 0; send 0, 2, d, 0; }
on message 1 { d = a; send from, 2, a + 1, b; }
on message 2 { v = v + a; if 2 < v { sync; } }`)
	if e != api.OK {
		t.Fatalf("no program: error %d", e)
	}
	c := api.Config{Programs: []api.Program{p}, Crashes: 1, Drops: 2, Dups: 2}
	for n := range nodes {
		c.First = append(c.First, 0)
		c.Requests = append(c.Requests, api.Request{Node: n, Arg: 3})
	}
	return c
}

// newWorld returns a simulation in its initial state.
func newWorld(t *testing.T, c api.Config) *world.World {
	t.Helper()
	w, e := world.New(c)
	if e != api.OK {
		t.Fatalf("no simulation: error %d", e)
	}
	return w
}

// simulated returns a random run of a simulation.
func simulated(t *testing.T, r *rand.Rand, c api.Config, length int) []api.Step {
	t.Helper()
	var run []api.Step
	w := newWorld(t, c)
	for range length {
		l := w.Enabled()
		if len(l) == 0 {
			break
		}
		choices := w.Choices(l[r.Intn(len(l))])
		s := choices[r.Intn(len(choices))]
		if _, e := w.Step(s.Event, answersIn(s)); e != api.OK {
			t.Fatalf("%+v: error %d", s, e)
		}
		run = append(run, s)
	}
	return run
}

// answersIn returns the answers that a step contains.
func answersIn(s api.Step) []api.Answer {
	var l []api.Answer
	for _, a := range s.Asks {
		l = append(l, api.Answer{Q: a.Q, N: a.N})
	}
	return l
}

// eachRun hands random runs to a function: of arbitrary steps, and of simulations.
func eachRun(t *testing.T, r *rand.Rand, count, most int, each func(run []api.Step)) {
	t.Helper()
	for range count {
		each(someRun(r, most))
		each(simulated(t, r, config(t, 1+r.Intn(4)), 1+r.Intn(most)))
	}
}

// P16.1, P16.5: all pairs of steps of the universe, and random ones.
func TestAllPairs(t *testing.T) {
	for _, a := range universe() {
		for _, b := range universe() {
			checkDependent(t, a, b)
		}
	}
	r := rand.New(rand.NewSource(1))
	counts := map[bool]int{}
	for range 50000 {
		counts[checkDependent(t, someStep(r, 12), someStep(r, 12))]++
	}
	if counts[true] < 5000 || counts[false] < 5000 {
		t.Errorf("the pairs are one-sided: %v", counts)
	}
}

// P16.2 to P16.4: all runs of up to four steps of the universe.
func TestAllShortRuns(t *testing.T) {
	all := universe()
	var extend func(run []api.Step, left int)
	extend = func(run []api.Step, left int) {
		checkRun(t, run)
		if left == 0 {
			return
		}
		for _, s := range all {
			extend(append(slices.Clip(run), s), left-1)
		}
	}
	extend(nil, 4)
}

// P16.2 to P16.4: longer runs.
func TestLongerRuns(t *testing.T) {
	r := rand.New(rand.NewSource(2))
	races := 0
	eachRun(t, r, 100, 60, func(run []api.Step) {
		_, l := checkRun(t, run)
		races += len(l)
	})
	if races < 1000 {
		t.Errorf("only %d races", races)
	}
}

// P16.2 to P16.4: runs of 500 steps, also such of which all or no steps are dependent, and that send as much as a handler can.
func TestLongestRuns(t *testing.T) {
	r := rand.New(rand.NewSource(3))
	mixed, full, apart, chatty := simulated(t, r, config(t, 6), 500), make([]api.Step, 500), make([]api.Step, 500), make([]api.Step, 500)
	for len(mixed) < 500 {
		mixed = append(mixed, someStep(r, 12))
	}
	for i := range 500 {
		apart[i].Event.Node = i
		chatty[i] = about(api.EvDeliver, i, msg(i/2, 10, 0, 0, 0))
		for k := range api.MaxSends {
			chatty[i].Sent = append(chatty[i].Sent, msg(i, 10, 0, k, 0))
		}
	}
	for _, run := range [][]api.Step{mixed, full, apart, chatty} {
		if len(run) != 500 {
			t.Fatalf("the run has %d steps", len(run))
		}
		checkOrderAndRaces(t, run)
		for _, i := range []int{-1, 0, 1, 250, 498, 499, 500} {
			checkSwap(t, run, i)
		}
	}
}

// isExchangedOrder reports whether two orders are the same but for the exchange of the positions i and i + 1.
func isExchangedOrder(o, p *poset.Order, i int) bool {
	place := func(a int) int {
		switch a {
		case i:
			return i + 1
		case i + 1:
			return i
		}
		return a
	}
	for a := range o.Len() {
		for b := range o.Len() {
			if o.Less(a, b) != p.Less(place(a), place(b)) {
				return false
			}
		}
	}
	return o.Len() == p.Len()
}

// P16.6, P16.7: a run is a linear extension of its order; adjacent steps are exchangeable or ordered; an exchange changes nothing in the order, and a second one restores the run.
func TestExchanges(t *testing.T) {
	r := rand.New(rand.NewSource(4))
	counts := map[api.Errno]int{}
	eachRun(t, r, 60, 30, func(run []api.Step) {
		o := Order(run)
		var list []int
		for i := range run {
			list = append(list, i)
		}
		if !o.IsLinear(list) {
			t.Fatalf("no linear extension of its order:\n%s", runText(run))
		}
		for i := range len(run) - 1 {
			got, err := checkSwap(t, run, i)
			counts[err]++
			if (err == api.OK) == o.Less(i, i+1) {
				t.Fatalf("steps %d and %d: error %d, but %d before %d: %t\n%s", i, i+1, err, i, i+1, o.Less(i, i+1), runText(run))
			}
			if err != api.OK {
				continue
			}
			if !isExchangedOrder(o, Order(got), i) {
				t.Fatalf("the exchange of steps %d and %d changes the order of\n%s", i, i+1, runText(run))
			}
			if again, err := Swap(got, i); err != api.OK || runText(again) != runText(run) {
				t.Fatalf("exchanged twice at %d: error %d\n%s\nwant\n%s", i, err, runText(again), runText(run))
			}
		}
	})
	if counts[api.OK] < 500 || counts[api.ErrOrder] < 500 {
		t.Errorf("the exchanges are one-sided: %v", counts)
	}
}

// P16.7: races are covering pairs of dependent steps, and all covering pairs without a message are races.
func TestRacesAreCovers(t *testing.T) {
	r := rand.New(rand.NewSource(5))
	eachRun(t, r, 100, 50, func(run []api.Step) {
		covers, races := Order(run).Covers(), Race(run)
		for _, p := range races {
			if !slices.Contains(covers, p) || !Dependent(run[p[0]], run[p[1]]) {
				t.Fatalf("the race %v is no covering pair of dependent steps of\n%s", p, runText(run))
			}
		}
		for _, p := range covers {
			if l := factsOf(run[p[0]], run[p[1]]); slices.Contains(races, p) == hasSent(l[0], l[1]) {
				t.Fatalf("the covering pair %v among the races %v of\n%s", p, races, runText(run))
			}
		}
	})
}

// P16.8: the steps of one node, and the observable ones, are totally ordered.
func TestTotallyOrdered(t *testing.T) {
	r := rand.New(rand.NewSource(6))
	eachRun(t, r, 100, 50, func(run []api.Step) {
		o := Order(run)
		for k, b := range run {
			for i, a := range run[:k] {
				if (a.Event.Node == b.Event.Node || a.Observable && b.Observable) && !o.Less(i, k) {
					t.Fatalf("step %d is not before step %d of\n%s", i, k, runText(run))
				}
			}
		}
	})
}

// replayed returns the hash of the state after a run, and whether a simulation has this run.
func replayed(t *testing.T, c api.Config, run []api.Step) (uint64, bool) {
	t.Helper()
	w := newWorld(t, c)
	for _, s := range run {
		again, err := w.Step(s.Event, answersIn(s))
		if err != api.OK || text(again) != text(s) {
			return 0, false
		}
	}
	return w.Hash(), true
}

// P16.1, P16.3: what dependence is for: independent adjacent steps of a simulation can be executed in the other order, with the same outcome.
func TestExchangesInSimulations(t *testing.T) {
	r := rand.New(rand.NewSource(7))
	exchanged := 0
	for range 30 {
		c := config(t, 2+r.Intn(3))
		run := simulated(t, r, c, 30)
		state, _ := replayed(t, c, run)
		for i := range len(run) - 1 {
			other, err := Swap(run, i)
			if err != api.OK {
				continue
			}
			exchanged++
			if got, same := replayed(t, c, other); !same || got != state {
				t.Fatalf("steps %d and %d cannot be exchanged in the run\n%s", i, i+1, runText(run))
			}
		}
	}
	if exchanged < 200 {
		t.Errorf("only %d exchanges", exchanged)
	}
}

// P16.5: whoever receives, loses or duplicates a message, or one of its copies, in a simulation depends on the step that sent the original.
func TestMessagesInSimulations(t *testing.T) {
	r := rand.New(rand.NewSource(8))
	consumers, copies := 0, 0
	for range 60 {
		run := simulated(t, r, config(t, 1+r.Intn(4)), 60)
		o := Order(run)
		for k, s := range run {
			if s.Event.Kind != api.EvDeliver && s.Event.Kind != api.EvDrop && s.Event.Kind != api.EvDup {
				continue
			}
			original := s.Event.Msg
			original.Copy = 0
			i := slices.IndexFunc(run, func(s api.Step) bool { return slices.Contains(s.Sent, original) })
			if i < 0 || i >= k || !Dependent(run[i], s) || !o.Less(i, k) {
				t.Fatalf("step %d does not depend on step %d in the run\n%s", k, i, runText(run))
			}
			if slices.Contains(Race(run), [2]int{i, k}) {
				t.Fatalf("steps %d and %d race in the run\n%s", i, k, runText(run))
			}
			consumers++
			if s.Event.Msg != original {
				copies++
			}
		}
	}
	if consumers < 500 || copies < 20 {
		t.Errorf("only %d steps that consume messages, %d of them copies", consumers, copies)
	}
}
