package world

import (
	"math"
	"math/rand"
	"slices"
	"testing"

	"simproof/api"
)

// sources returns programs that use all of what a node can do.
func sources() []string {
	return []string{
		"",
		"volatile n; on start { timer 0; timer 7; } on timer 0 { n = n + 1; timer 0; } on timer 7 { n = 100 * n; cancel 0; fail n; }",
		`durable d, e; volatile v;
on start { send 1 - self, 0, d, 1; e = e + 1; timer 1; }
on request { v = draw(3); send (self + 1) - nodes * ((self + 1) / nodes), 1, a, id; if op == 0 { reply id, d; } else { d = d + a; if draw(2) == 0 { sync; } timer 2; } }
on message 0 { d = a + b; fail from; reply 0, 5; }
on message 1 { e = b; send from, 2, a * 2, b; send self, 0, 3, 4; }
on message 2 { reply b, a; fail 7; fail 8; }
on timer 1 { e = now; send 0, 3, now, key; }
on timer 2 { reply 0, v; reply 1, v; reply 2, v; }`,
		`durable x; volatile v, w;
on start { if draw(2) == 1 { v = draw(4); } x = v; x = x + draw(2); sync; x = x * 2; x = x * 2; }
on request { reply id, a + key * 10; timer 3; send draw(nodes), 1, id, op; }
on message 0 { w = w + a; } on message 1 { reply a, b; timer 4; } on message 2 { fail 1; } on message 3 { x = a; }
on timer 3 { send from, 3, 0, 0; send 1, 2, self, self; timer 3; }`,
	}
}

// someConfig returns a random configuration.
func someConfig(t *testing.T, r *rand.Rand) api.Config {
	t.Helper()
	all := sources()
	c := api.Config{Crashes: r.Intn(4), Drops: r.Intn(3), Dups: r.Intn(3), Drift: max(0, r.Intn(5)-1)}
	for range 1 + r.Intn(3) {
		c.Programs = append(c.Programs, programs(t, all[r.Intn(len(all))])...)
	}
	for range 1 + r.Intn(3) {
		c.First = append(c.First, r.Intn(len(c.Programs)))
	}
	for range r.Intn(4) {
		c.Restarts = append(c.Restarts, r.Intn(len(c.Programs)))
	}
	for range r.Intn(6) {
		c.Requests = append(c.Requests, api.Request{Node: r.Intn(len(c.First)), Op: r.Intn(3), Key: r.Intn(3), Arg: r.Intn(9)})
	}
	return c
}

// number returns a random number, mostly a small one.
func number(r *rand.Rand) int {
	if r.Intn(10) == 0 {
		return []int{math.MinInt, math.MinInt + 1, -1, api.MaxValue, math.MaxInt}[r.Intn(5)]
	}
	return r.Intn(5)
}

// someAnswers returns answers to questions of some steps, and to others.
func someAnswers(r *rand.Rand, steps []api.Step) []api.Answer {
	var l []api.Answer
	for range r.Intn(4) {
		for _, s := range steps {
			for _, a := range s.Asks {
				if q := a.Q; r.Intn(2) == 0 {
					l = append(l, api.Answer{Q: q, N: number(r)})
					q.Index += r.Intn(3) - 1
					q.Kind += r.Intn(3) - 1
					l = append(l, api.Answer{Q: q, N: number(r)})
				}
				if q := a.Q; r.Intn(4) == 0 {
					q.Cause.Count += r.Intn(3) - 1
					q.Cause.Node += r.Intn(3) - 1
					l = append(l, api.Answer{Q: q, N: number(r)})
				}
			}
		}
	}
	r.Shuffle(len(l), func(i, k int) { l[i], l[k] = l[k], l[i] })
	return l
}

// someRun executes random events, and hands each to a function before it is executed, with the steps by which it can be.
func someRun(t *testing.T, r *rand.Rand, c api.Config, length int, each func(w *World, m *model, e api.Event, choices []api.Step)) {
	t.Helper()
	w, m := started(t, c)
	for range length {
		l := w.Enabled()
		if len(l) == 0 {
			break
		}
		e := l[r.Intn(len(l))]
		// Starts and crashes would otherwise be too rare, or too frequent.
		if e.Kind == api.EvCrash && r.Intn(3) > 0 {
			e = l[0]
		}
		choices := w.Choices(e)
		each(w, m, e, choices)
		if _, err := checkStep(t, w, m, e, someAnswers(r, choices)); err != api.OK {
			t.Fatalf("%+v is enabled, but error %d", e, err)
		}
	}
}

// P15.2 to P15.6: random runs of random configurations.
func TestRandomRuns(t *testing.T) {
	r := rand.New(rand.NewSource(1))
	for range 150 {
		someRun(t, r, someConfig(t, r), 60, func(w *World, m *model, e api.Event, _ []api.Step) {
			checkWorld(t, w, m)
			if r.Intn(4) == 0 {
				checkChoices(t, w, m, e)
			}
		})
	}
}

// P15.3, P15.4: events that are not enabled have no choices and change nothing.
func TestEventsThatAreNotEnabled(t *testing.T) {
	r := rand.New(rand.NewSource(2))
	for range 40 {
		someRun(t, r, someConfig(t, r), 30, func(w *World, m *model, _ api.Event, _ []api.Step) {
			before := state(w)
			for _, e := range m.candidates() {
				if m.isEnabled(e) {
					continue
				}
				if s, err := w.Step(e, nil); text(s) != text(api.Step{}) || err != api.ErrEvent {
					t.Fatalf("%+v is not enabled: %+v, error %d", e, s, err)
				}
				if l := w.Choices(e); len(l) > 0 {
					t.Fatalf("%+v is not enabled, but has the choices %+v", e, l)
				}
			}
			checkSame(t, "the state", state(w), before)
		})
	}
}

// P15.1: neither a clone nor its original affects the other, whichever of them goes on first.
func TestClones(t *testing.T) {
	r := rand.New(rand.NewSource(3))
	for range 60 {
		type pair struct {
			w *World
			m *model
		}
		w, m := started(t, someConfig(t, r))
		all := []pair{{w, m}}
		for range 60 {
			p := all[r.Intn(len(all))]
			if r.Intn(6) == 0 && len(all) < 8 {
				all = append(all, pair{p.w.Clone(), p.m.clone()})
			}
			if l := p.w.Enabled(); len(l) > 0 {
				e := l[r.Intn(len(l))]
				checkStep(t, p.w, p.m, e, someAnswers(r, p.w.Choices(e)))
			}
		}
		for _, p := range all {
			checkWorld(t, p.w, p.m)
		}
	}
}

// P15.4: Step returns each of the choices when it is given the answers in it.
func TestChoicesAreSteps(t *testing.T) {
	r := rand.New(rand.NewSource(4))
	for range 60 {
		someRun(t, r, someConfig(t, r), 40, func(w *World, _ *model, e api.Event, choices []api.Step) {
			for _, s := range choices {
				again, err := w.Clone().Step(e, answersIn(s))
				checkSame(t, "the error", err, api.OK)
				checkSame(t, "the step", again, s)
			}
			for range 10 {
				s, _ := w.Clone().Step(e, someAnswers(r, choices))
				if !slices.ContainsFunc(choices, func(c api.Step) bool { return text(c) == text(s) }) {
					t.Fatalf("the step %+v is not among the choices %+v", s, choices)
				}
			}
		})
	}
}

// answersIn returns the answers that steps contain.
func answersIn(steps ...api.Step) []api.Answer {
	var l []api.Answer
	for _, s := range steps {
		for _, a := range s.Asks {
			l = append(l, api.Answer{Q: a.Q, N: a.N})
		}
	}
	return l
}

// P15.7, P15.10: the same events with the same answers lead to the same state, and the answers in the steps of a run, all at once, to the same steps.
func TestReplay(t *testing.T) {
	r := rand.New(rand.NewSource(5))
	for range 100 {
		c := someConfig(t, r)
		w, _ := started(t, c)
		same, _ := started(t, c)
		var run []api.Step
		for range 80 {
			l := w.Enabled()
			if len(l) == 0 {
				break
			}
			e := l[r.Intn(len(l))]
			answers := someAnswers(r, w.Choices(e))
			s, _ := w.Step(e, answers)
			again, _ := same.Step(e, answers)
			checkSame(t, "the step", again, s)
			checkSame(t, "the state", state(same), state(w))
			run = append(run, s)
		}
		replayed, _ := started(t, c)
		for _, s := range run {
			again, err := replayed.Step(s.Event, answersIn(run...))
			checkSame(t, "the error", err, api.OK)
			checkSame(t, "the step", again, s)
		}
		checkSame(t, "the state", state(replayed), state(w))
	}
}

// pairState returns the state after two choices, or nothing if the second one is no choice after the first.
func pairState(w *World, a, b api.Step) (string, bool) {
	x := w.Clone()
	x.Step(a.Event, answersIn(a))
	s, err := x.Step(b.Event, answersIn(b))
	return state(x), err == api.OK && text(s) == text(b)
}

// P15.8: events of different nodes leave each other enabled with the same choices, and commute unless both steps are observable.
func TestCommutation(t *testing.T) {
	r := rand.New(rand.NewSource(6))
	pairs, visible := 0, 0
	for range 60 {
		someRun(t, r, someConfig(t, r), 40, func(w *World, _ *model, e api.Event, choices []api.Step) {
			for _, other := range w.Enabled() {
				if other.Node == e.Node {
					continue
				}
				a, others := choices[r.Intn(len(choices))], w.Choices(other)
				b := others[r.Intn(len(others))]
				x := w.Clone()
				x.Step(e, answersIn(a))
				checkSame(t, "the choices after another event", x.Choices(other), others)
				one, ok := pairState(w, a, b)
				two, okToo := pairState(w, b, a)
				if !ok || !okToo {
					t.Fatalf("%+v and %+v do not follow each other", a, b)
				}
				pairs++
				if a.Observable && b.Observable {
					visible++
					if one == two {
						t.Fatalf("both orders of %+v and %+v have the same observations", a, b)
					}
				} else if one != two {
					t.Fatalf("%+v and %+v lead to\n%s\nand in the other order to\n%s", a, b, one, two)
				}
			}
		})
	}
	if pairs < 1000 || visible < 20 {
		t.Errorf("only %d pairs, %d of them visible", pairs, visible)
	}
}

// P15.9: names are used once; messages are in flight until they are delivered or dropped.
func TestNamesOfMessages(t *testing.T) {
	r := rand.New(rand.NewSource(7))
	for range 100 {
		used, inFlight := map[api.Msg]bool{}, map[api.Msg]bool{}
		w, _ := started(t, someConfig(t, r))
		for range 80 {
			l := w.Enabled()
			if len(l) == 0 {
				break
			}
			e := l[r.Intn(len(l))]
			s, _ := w.Step(e, someAnswers(r, w.Choices(e)))
			added := slices.Clone(s.Sent)
			switch e.Kind {
			case api.EvDeliver, api.EvDrop:
				delete(inFlight, e.Msg)
			case api.EvDup:
				double := e.Msg
				double.Copy = w.Node(e.Node).Doubled
				added = append(added, double)
			}
			for _, m := range added {
				if used[m] {
					t.Fatalf("the name %+v is used twice", m)
				}
				used[m], inFlight[m] = true, true
			}
			for _, x := range w.Flight() {
				if !inFlight[x.Msg] {
					t.Fatalf("%+v is in flight", x)
				}
			}
			checkSame(t, "the number of messages in flight", len(w.Flight()), len(inFlight))
		}
	}
}

// P15.2 to P15.6: many messages in flight, from many executions.
func TestFlood(t *testing.T) {
	flood := "volatile n; on start { send 0, 5, 1, 1; } on message 5 { while n < 20 { send draw(2), 5, now, n; n = n + 1; } n = 0; }"
	c := api.Config{Programs: programs(t, flood), First: []int{0, 0}, Dups: 10, Drops: 10}
	w, m := started(t, c)
	r := rand.New(rand.NewSource(8))
	for i := range 70 {
		l := w.Enabled()
		e := l[r.Intn(len(l))]
		var answers []api.Answer
		for k := range r.Intn(20) {
			answers = append(answers, api.Answer{Q: api.Question{Cause: api.Cause{Node: e.Node, Handler: api.OnMessage + 5, Count: w.Node(e.Node).Counts[api.OnMessage+5]}, Kind: api.QDraw, Index: k}, N: 1})
		}
		checkStep(t, w, m, e, answers)
		if i%10 == 0 {
			checkWorld(t, w, m)
		}
	}
	checkWorld(t, w, m)
}
