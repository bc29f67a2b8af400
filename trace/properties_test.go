package trace

import (
	"math/rand"
	"slices"
	"testing"

	"simproof/api"
	"simproof/compile"
	"simproof/depend"
	"simproof/world"
)

// universe returns steps that are dependent for each reason and for none, some of which compare as 0 although they are different.
func universe() []api.Step {
	m, n := msg(0, 2, 0, 0, 0), msg(1, 10, 1, 2, 0)
	return []api.Step{
		timer(2, 0), timer(1, 0), visible(timer(2, 0)), visible(timer(0, 1)), asked(timer(1, 0), api.Ask{Arity: 2}),
		timer(0, 0, m), timer(3, 0, n, m), about(api.EvDeliver, 1, m), about(api.EvDup, 1, msg(0, 2, 0, 0, 1), n),
		visible(about(api.EvDeliver, 2, n)), about(api.EvDrop, 4, n),
	}
}

// few returns some steps of the universe. Of runs of four steps, all are tried with these alone.
func few() []api.Step { return pick(universe(), 0, 1, 2, 3, 5, 6, 7, 10) }

// runsOf hands all runs of up to some number of steps to a function.
func runsOf(steps []api.Step, most int, each func(run []api.Step)) {
	var extend func(run []api.Step)
	extend = func(run []api.Step) {
		each(run)
		if len(run) == most {
			return
		}
		for _, s := range steps {
			extend(append(slices.Clone(run), s))
		}
	}
	extend(nil)
}

// someMsg returns a random message, mostly the original of one of a few.
func someMsg(r *rand.Rand) api.Msg {
	return msg(r.Intn(2), 10, r.Intn(2), r.Intn(2), max(0, r.Intn(6)-3))
}

// someStep returns a random step at one of some nodes. It is not visible in most cases.
func someStep(r *rand.Rand, nodes int) api.Step {
	s := about(r.Intn(9), r.Intn(nodes), someMsg(r))
	s.Event.Arg = r.Intn(2)
	s.Observable = r.Intn(6) == 0
	for range max(0, r.Intn(6)-3) {
		s.Sent = append(s.Sent, someMsg(r))
	}
	for range max(0, r.Intn(4)-2) {
		s.Asks = append(s.Asks, api.Ask{Q: api.Question{Kind: 1 + r.Intn(3), Index: r.Intn(3)}, Arity: 2, N: r.Intn(2)})
	}
	return s
}

// someRun returns a random run of arbitrary steps.
func someRun(r *rand.Rand, most int) []api.Step {
	nodes := 1 + r.Intn(12)
	var run []api.Step
	for range r.Intn(most + 1) {
		run = append(run, someStep(r, nodes))
	}
	return run
}

// config returns a configuration whose runs have messages that are forwarded, answered, lost and duplicated, and requests at each of some nodes.
func config(t *testing.T, nodes int) api.Config {
	t.Helper()
	p, e := compile.Build(`durable d; volatile v;
on start { timer 0; send 0, 1, self, 1; }
on request { v = draw(2); reply id, d; send nodes - 1, 2, a, id; }
on timer 0 { d = d + 1; send nodes - 1, 1, d, 0; send 0, 2, d, 0; }
on message 1 { d = a; send from, 2, a + 1, b; }
on message 2 { v = v + a; if 2 < v { sync; } }`)
	if e != api.OK {
		t.Fatalf("no program: error %d", e)
	}
	c := api.Config{Programs: []api.Program{p}, Crashes: 1, Drops: 2, Dups: 2}
	for n := range nodes {
		c.First = append(c.First, 0)
		c.Requests = append(c.Requests, api.Request{Node: n, Arg: 3})
	}
	return c
}

// newWorld returns a simulation in its initial state.
func newWorld(t *testing.T, c api.Config) *world.World {
	t.Helper()
	w, e := world.New(c)
	if e != api.OK {
		t.Fatalf("no simulation: error %d", e)
	}
	return w
}

// take executes a step of a simulation.
func take(t *testing.T, w *world.World, s api.Step) {
	t.Helper()
	if _, e := w.Step(s.Event, answersIn(s)); e != api.OK {
		t.Fatalf("%+v: error %d", s, e)
	}
}

// simulated returns a random run of a simulation.
func simulated(t *testing.T, r *rand.Rand, c api.Config, length int) []api.Step {
	t.Helper()
	var run []api.Step
	w := newWorld(t, c)
	for range length {
		l := w.Enabled()
		if len(l) == 0 {
			break
		}
		choices := w.Choices(l[r.Intn(len(l))])
		s := choices[r.Intn(len(choices))]
		take(t, w, s)
		run = append(run, s)
	}
	return run
}

// simulations returns all runs of a simulation of up to some number of steps.
func simulations(t *testing.T, c api.Config, most int) [][]api.Step {
	t.Helper()
	var runs [][]api.Step
	var extend func(w *world.World, run []api.Step)
	extend = func(w *world.World, run []api.Step) {
		runs = append(runs, run)
		if len(run) == most {
			return
		}
		for _, e := range w.Enabled() {
			for _, s := range w.Choices(e) {
				next := w.Clone()
				take(t, next, s)
				extend(next, append(slices.Clone(run), s))
			}
		}
	}
	extend(newWorld(t, c), nil)
	return runs
}

// answersIn returns the answers that a step contains.
func answersIn(s api.Step) []api.Answer {
	var l []api.Answer
	for _, a := range s.Asks {
		l = append(l, api.Answer{Q: a.Q, N: a.N})
	}
	return l
}

// eachRun hands random runs to a function: of arbitrary steps, and of simulations.
func eachRun(t *testing.T, r *rand.Rand, count, most int, each func(run []api.Step)) {
	t.Helper()
	for range count {
		each(someRun(r, most))
		each(simulated(t, r, config(t, 1+r.Intn(4)), 1+r.Intn(most)))
	}
}

// exchanged returns a run after random exchanges of independent steps.
func exchanged(r *rand.Rand, run []api.Step) []api.Step {
	l := slices.Clone(run)
	for range 4 * len(run) {
		i := r.Intn(len(run))
		if i+1 < len(l) && !depend.Dependent(l[i], l[i+1]) {
			l[i], l[i+1] = l[i+1], l[i]
		}
	}
	return l
}

// changed returns a run after one exchange of adjacent steps of any kind.
func changed(r *rand.Rand, run []api.Step) []api.Step {
	l := slices.Clone(run)
	if len(l) > 1 {
		i := r.Intn(len(l) - 1)
		l[i], l[i+1] = l[i+1], l[i]
	}
	return l
}

// P17.1 to P17.3: all runs of up to three steps of the universe and of up to four of some of them, and P17.2, P17.5, P17.7 for all pairs of equivalent ones.
func TestAllShortRuns(t *testing.T) {
	longest := 0
	check := func(run []api.Step) {
		class := checkRun(t, run)
		longest = max(longest, len(class))
		key, seen := Key(run), views(run)
		for _, other := range class {
			if !Equivalent(run, other) || Key(other) != key || views(other) != seen {
				t.Fatalf("equivalent, but told apart:\n%s\nand\n%s", runText(run), runText(other))
			}
		}
	}
	runsOf(universe(), 3, check)
	runsOf(few(), 4, check)
	if longest != 24 {
		t.Errorf("the largest class has %d runs, not 24", longest)
	}
}

// P17.2: all pairs of runs of up to three steps.
func TestAllPairs(t *testing.T) {
	var runs [][]api.Step
	runsOf(pick(universe(), 0, 1, 2, 5, 7), 3, func(run []api.Step) { runs = append(runs, run) })
	for _, a := range runs {
		class := definedClass(a)
		for _, b := range runs {
			_, want := class[runText(b)]
			if Equivalent(a, b) != want {
				t.Fatalf("%t, want %t, for the runs\n%s\nand\n%s", !want, want, runText(a), runText(b))
			}
		}
	}
}

// P17.4: the classes of all runs of up to four steps, some of them twice.
func TestAllClasses(t *testing.T) {
	var runs [][]api.Step
	runsOf(few(), 4, func(run []api.Step) { runs = append(runs, run) })
	runs = append(runs, runs[:1000]...)
	r := rand.New(rand.NewSource(1))
	r.Shuffle(len(runs), func(i, k int) { runs[i], runs[k] = runs[k], runs[i] })
	var least []string
	for _, run := range runs {
		least = append(least, runText(definedNormal(t, definedClass(run))))
	}
	checkClasses(t, runs, definedClasses(least))
}

// P17.1 to P17.3: random runs of up to seven steps, and of more.
func TestRandomRuns(t *testing.T) {
	r := rand.New(rand.NewSource(2))
	runs := 0
	eachRun(t, r, 60, 7, func(run []api.Step) {
		runs += len(checkRun(t, run))
	})
	if runs < 2000 {
		t.Errorf("the classes have only %d runs", runs)
	}
	eachRun(t, r, 100, 60, func(run []api.Step) {
		checkNormal(t, run, greedyNormal(run))
		checkProjections(t, run)
	})
}

// P17.1 to P17.3: runs of 500 steps, also such of which all or no steps are dependent.
func TestLongestRuns(t *testing.T) {
	r := rand.New(rand.NewSource(3))
	mixed, one, apart := simulated(t, r, config(t, 6), 500), make([]api.Step, 500), make([]api.Step, 500)
	for len(mixed) < 500 {
		mixed = append(mixed, someStep(r, 12))
	}
	for i := range 500 {
		one[i] = timer(0, 500-i)
		apart[i] = timer(i*7%500, i)
		for k := range api.MaxSends {
			apart[i].Sent = append(apart[i].Sent, msg(i, 10, 0, k, 0))
		}
	}
	for _, run := range [][]api.Step{mixed, one, apart} {
		if len(run) != 500 {
			t.Fatalf("the run has %d steps", len(run))
		}
		checkNormal(t, run, greedyNormal(run))
		checkProjections(t, run)
		checkEquivalent(t, run, exchanged(r, run), true)
		checkEquivalent(t, run, run[:499], false)
	}
	// One exchange at the beginning of such a run decides.
	checkEquivalent(t, one, append([]api.Step{one[1], one[0]}, one[2:]...), false)
	checkEquivalent(t, apart, append([]api.Step{apart[1], apart[0]}, apart[2:]...), true)
}

// P17.4: the classes are those of the relation Equivalent, in the order of their least indices.
func TestRandomClasses(t *testing.T) {
	r := rand.New(rand.NewSource(4))
	eachRun(t, r, 60, 12, func(run []api.Step) {
		runs := [][]api.Step{run}
		for range 20 {
			from := runs[r.Intn(len(runs))]
			runs = append(runs, exchanged(r, from), changed(r, from), from[:r.Intn(len(from)+1)])
		}
		r.Shuffle(len(runs), func(i, k int) { runs[i], runs[k] = runs[k], runs[i] })
		var least []string
		for _, run := range runs {
			least = append(least, runText(greedyNormal(run)))
		}
		checkClasses(t, runs, definedClasses(least))
	})
}

// P17.5: Normal is idempotent, and two runs are equivalent if and only if their normal forms are equal; then their keys are equal.
func TestNormalFormsDecide(t *testing.T) {
	r := rand.New(rand.NewSource(5))
	counts := map[bool]int{}
	eachRun(t, r, 150, 30, func(run []api.Step) {
		form := Normal(run)
		if again := Normal(form); runText(again) != runText(form) {
			t.Fatalf("the normal form of\n%s\nis\n%s", runText(form), runText(again))
		}
		checkEquivalent(t, run, form, true)
		for range 5 {
			other := changed(r, exchanged(r, run))
			want := runText(Normal(other)) == runText(form)
			checkEquivalent(t, run, other, want)
			if want != (Key(run) == Key(other)) {
				t.Fatalf("equivalent: %t, but the keys are %d and %d for the runs\n%s\nand\n%s", want, Key(run), Key(other), runText(run), runText(other))
			}
			counts[want]++
		}
	})
	if counts[true] < 200 || counts[false] < 200 {
		t.Errorf("the pairs are one-sided: %v", counts)
	}
}

// P17.2, P17.6: exchanging independent adjacent steps does not change Normal; exchanging dependent ones that are different does.
func TestExchanges(t *testing.T) {
	r := rand.New(rand.NewSource(6))
	counts := map[bool]int{}
	eachRun(t, r, 100, 30, func(run []api.Step) {
		form := runText(Normal(run))
		for i := range len(run) - 1 {
			l := slices.Clone(run)
			l[i], l[i+1] = l[i+1], l[i]
			want := !depend.Dependent(l[i], l[i+1]) || text(l[i]) == text(l[i+1])
			if got := runText(Normal(l)) == form; got != want {
				t.Fatalf("after the exchange of steps %d and %d the same normal form: %t, want %t, in the run\n%s", i, i+1, got, want, runText(run))
			}
			checkEquivalent(t, run, l, want)
			counts[want]++
		}
	})
	if counts[true] < 500 || counts[false] < 500 {
		t.Errorf("the exchanges are one-sided: %v", counts)
	}
}

// P17.7: equivalent runs look the same at each node and to observers.
func TestViewsOfEquivalentRuns(t *testing.T) {
	r := rand.New(rand.NewSource(7))
	eachRun(t, r, 100, 50, func(run []api.Step) {
		for _, other := range [][]api.Step{Normal(run), exchanged(r, run)} {
			if views(run) != views(other) {
				t.Fatalf("told apart:\n%s\nand\n%s", runText(run), runText(other))
			}
		}
	})
}

// P17.7: runs of a simulation that look the same at each node and to observers are equivalent, and others are not.
func TestViewsInSimulations(t *testing.T) {
	for nodes, depth := range map[int]int{1: 5, 2: 4, 3: 3} {
		runs := simulations(t, config(t, nodes), depth)
		var seen []string
		for _, run := range runs {
			seen = append(seen, views(run))
		}
		want := definedClasses(seen)
		checkClasses(t, runs, want)
		if nodes > 1 && (len(want) < 100 || len(want) > len(runs)*9/10) {
			t.Errorf("%d nodes: %d runs in %d classes", nodes, len(runs), len(want))
		}
	}
}

// P17.7: of arbitrary runs this does not hold, because a message can be delivered that was not sent.
func TestViewsOfArbitraryRuns(t *testing.T) {
	m := msg(0, 2, 0, 0, 0)
	a := []api.Step{timer(0, 0, m), about(api.EvDeliver, 1, m)}
	b := pick(a, 1, 0)
	if views(a) != views(b) {
		t.Errorf("told apart:\n%s\nand\n%s", runText(a), runText(b))
	}
	checkEquivalent(t, a, b, false)
}

// replayed returns all that can be seen of a simulation after a run, and whether the simulation has this run.
func replayed(t *testing.T, c api.Config, run []api.Step) (string, bool) {
	t.Helper()
	w := newWorld(t, c)
	for _, s := range run {
		again, err := w.Step(s.Event, answersIn(s))
		if err != api.OK || text(again) != text(s) {
			return "", false
		}
	}
	s := text(w.Hash()) + text(w.Enabled()) + text(w.Flight()) + text(w.Observations()) + text(w.Failures()) + text(w.Covered())
	for n := range c.First {
		s += text(w.Node(n)) + text(w.Trace(n))
	}
	return s, true
}

// P17.8: what is equivalent to a run of a simulation is one as well, by the same answers, and leads to an equal state.
func TestEquivalentRunsOfSimulations(t *testing.T) {
	r := rand.New(rand.NewSource(8))
	others := 0
	for range 60 {
		c := config(t, 2+r.Intn(3))
		run := simulated(t, r, c, 40)
		state, _ := replayed(t, c, run)
		for _, other := range [][]api.Step{Normal(run), exchanged(r, run), exchanged(r, run)} {
			if got, same := replayed(t, c, other); !same || got != state {
				t.Fatalf("a simulation has the first one of these runs, but not the second one, or ends in another state:\n%s\nand\n%s", runText(run), runText(other))
			}
			if runText(other) != runText(run) {
				others++
			}
		}
	}
	if others < 100 {
		t.Errorf("only %d other runs", others)
	}
}

// P17.9: equivalent runs stay equivalent with one more step.
func TestPrefixes(t *testing.T) {
	r := rand.New(rand.NewSource(9))
	eachRun(t, r, 100, 30, func(run []api.Step) {
		other := exchanged(r, run)
		for range 5 {
			s := someStep(r, 12)
			checkEquivalent(t, append(slices.Clone(run), s), append(slices.Clone(other), s), true)
		}
	})
}
