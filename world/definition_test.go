package world

import (
	"fmt"
	"slices"
	"testing"

	"simproof/api"
	"simproof/compile"
	"simproof/hash"
	"simproof/names"
	"simproof/node"
	"simproof/vm"
)

// model is a simulation as the chapter defines it: it keeps everything that ever happened.
type model struct {
	c        api.Config
	nodes    []api.NodeState
	sent     []api.Envelope   // all messages that were ever sent or duplicated
	gone     map[api.Msg]bool // those that were delivered or dropped
	invoked  map[int]bool
	obs      []api.Obs
	failures map[int][]api.Failure
	traces   map[int][][]int
	covered  map[api.Ins]bool
	steps    int
}

// newModel returns the initial state.
func newModel(c api.Config) *model {
	m := &model{c: c, gone: map[api.Msg]bool{}, invoked: map[int]bool{}, failures: map[int][]api.Failure{}, traces: map[int][][]int{}, covered: map[api.Ins]bool{}}
	for range c.First {
		m.nodes = append(m.nodes, node.New())
	}
	return m
}

// clone returns a copy.
func (m *model) clone() *model {
	c := *m
	c.nodes, c.sent, c.obs = slices.Clone(m.nodes), slices.Clone(m.sent), slices.Clone(m.obs)
	c.gone, c.invoked, c.covered = cloneMap(m.gone), cloneMap(m.invoked), cloneMap(m.covered)
	c.failures, c.traces = map[int][]api.Failure{}, map[int][][]int{}
	for n := range m.nodes {
		c.failures[n], c.traces[n] = slices.Clone(m.failures[n]), slices.Clone(m.traces[n])
	}
	return &c
}

// cloneMap returns a copy of a map.
func cloneMap[K comparable, V any](m map[K]V) map[K]V {
	c := map[K]V{}
	for k, v := range m {
		c[k] = v
	}
	return c
}

// next returns the next request of a node, or -1.
func (m *model) next(n int) int {
	for i, r := range m.c.Requests {
		if r.Node == n && !m.invoked[i] {
			return i
		}
	}
	return -1
}

// content returns the message with a name, if it is in flight.
func (m *model) content(name api.Msg) (api.Envelope, bool) {
	for _, x := range m.sent {
		if x.Msg == name && !m.gone[name] {
			return x, true
		}
	}
	return api.Envelope{}, false
}

// isEnabled is the chapter's definition of enabled events.
func (m *model) isEnabled(e api.Event) bool {
	n := e.Node
	if n < 0 || n >= len(m.nodes) {
		return false
	}
	s := m.nodes[n]
	x, inFlight := m.content(e.Msg)
	toNode := inFlight && x.To == n
	switch e.Kind {
	case api.EvStart:
		right := e.Arg == m.c.First[n]
		if s.Version != -1 {
			right = slices.Contains(m.c.Restarts, e.Arg) || len(m.c.Restarts) == 0 && e.Arg == s.Version
		}
		return e.Msg == (api.Msg{}) && !s.Up && right
	case api.EvInvoke:
		return e.Msg == (api.Msg{}) && s.Up && s.Waiting == -1 && e.Arg >= 0 && e.Arg == m.next(n)
	case api.EvDeliver:
		return e.Arg == 0 && s.Up && toNode
	case api.EvTimer:
		return e.Msg == (api.Msg{}) && s.Up && slices.Contains(s.Timers, e.Arg)
	case api.EvDrop:
		return e.Arg == 0 && toNode && s.Dropped < m.c.Drops
	case api.EvDup:
		return e.Arg == 0 && toNode && s.Doubled < m.c.Dups
	case api.EvCrash:
		return e == (api.Event{Kind: api.EvCrash, Node: n}) && s.Up && s.Counts[api.OnCrash] < m.c.Crashes
	}
	return false
}

// candidates returns events, among them all that can be enabled.
func (m *model) candidates() []api.Event {
	var l []api.Event
	for kind := api.EvStart - 1; kind <= api.EvCrash+1; kind++ {
		for n := -1; n <= len(m.nodes); n++ {
			for arg := -1; arg <= max(len(m.c.Programs), len(m.c.Requests), api.MaxTimers); arg++ {
				l = append(l, api.Event{Kind: kind, Node: n, Arg: arg})
			}
			for _, x := range m.sent {
				l = append(l, api.Event{Kind: kind, Node: n, Msg: x.Msg}, api.Event{Kind: kind, Node: n, Arg: 1, Msg: x.Msg})
			}
		}
	}
	return l
}

// enabled returns the enabled events in order.
func (m *model) enabled() []api.Event {
	l := slices.DeleteFunc(m.candidates(), func(e api.Event) bool { return !m.isEnabled(e) })
	slices.SortFunc(l, names.CompareEvent)
	return slices.Compact(l)
}

// step executes an event as the chapter tells it.
func (m *model) step(e api.Event, answers []api.Answer) (api.Step, api.Errno) {
	if m.steps >= 5000 {
		return api.Step{}, api.ErrLimit
	}
	if !m.isEnabled(e) {
		return api.Step{}, api.ErrEvent
	}
	m.steps++
	step, before := api.Step{Event: e}, len(m.obs)
	s, handler := &m.nodes[e.Node], -1
	var in vm.Input
	switch x, _ := m.content(e.Msg); e.Kind {
	case api.EvStart:
		handler = api.OnStart
	case api.EvInvoke:
		handler, m.invoked[e.Arg], s.Waiting = api.OnRequest, true, e.Arg
		m.obs = append(m.obs, api.Obs{Request: e.Arg, Node: e.Node, Epoch: s.Epoch})
		r := m.c.Requests[e.Arg]
		in.Names = [api.Names]int{api.NameID: e.Arg, api.NameOp: r.Op, api.NameKey: r.Key, api.NameA: r.Arg}
	case api.EvDeliver:
		handler, m.gone[e.Msg] = 10+x.Kind, true
		in.Names = [api.Names]int{api.NameFrom: e.Msg.Cause.Node, api.NameA: x.A, api.NameB: x.B}
	case api.EvTimer:
		handler = 2 + e.Arg
		s.Timers = slices.DeleteFunc(slices.Clone(s.Timers), func(k int) bool { return k == e.Arg })
	case api.EvDrop:
		m.gone[e.Msg] = true
		s.Dropped++
	case api.EvDup:
		s.Doubled++
		x.Msg.Copy = s.Doubled
		m.sent = append(m.sent, x)
	case api.EvCrash:
		*s = node.Crash(*s, m.ask(api.Cause{Node: e.Node, Handler: 40, Count: s.Counts[40]}, answers, &step.Asks))
		m.traces[e.Node] = append(m.traces[e.Node], node.Vars(*s))
	}
	if handler >= 0 {
		step.Sent = m.execute(e, handler, in, answers, &step.Asks)
	}
	step.Observable = len(m.obs) > before
	return step, api.OK
}

// execute executes a handler and returns the names of the messages sent.
func (m *model) execute(e api.Event, handler int, in vm.Input, answers []api.Answer, asks *[]api.Ask) []api.Msg {
	n, before := e.Node, m.nodes[e.Node]
	ask := m.ask(api.Cause{Node: n, Handler: handler, Count: before.Counts[handler]}, answers, asks)
	var r node.Result
	if e.Kind == api.EvStart {
		m.nodes[n], r = node.Start(before, m.c.Programs[e.Arg], e.Arg, n, len(m.nodes), m.c.Drift, ask)
	} else {
		m.nodes[n], r = node.Handle(before, m.c.Programs[before.Version], handler, n, len(m.nodes), m.c.Drift, in, ask)
	}
	if r.Replied {
		m.obs = append(m.obs, api.Obs{Reply: true, Request: before.Waiting, Node: n, Epoch: before.Epoch, Value: r.Value})
	}
	for _, code := range r.Failures {
		m.failures[n] = append(m.failures[n], api.Failure{Cause: r.Cause, Code: code})
	}
	for _, i := range r.Out.Covered {
		m.covered[api.Ins{Op: m.nodes[n].Version, N: i}] = true
	}
	m.traces[n] = append(m.traces[n], node.Vars(m.nodes[n]))
	m.sent = append(m.sent, r.Sent...)
	var sent []api.Msg
	for _, x := range r.Sent {
		sent = append(sent, x.Msg)
	}
	return sent
}

// ask answers the questions of a cause and records them.
func (m *model) ask(cause api.Cause, answers []api.Answer, asks *[]api.Ask) node.Ask {
	return func(kind, index, arity int) int {
		a := api.Ask{Q: api.Question{Cause: cause, Kind: kind, Index: index}, Arity: arity}
		for i := len(answers) - 1; i >= 0; i-- {
			if answers[i].Q == a.Q {
				if answers[i].N > 0 {
					a.N = answers[i].N % arity
				}
				break
			}
		}
		*asks = append(*asks, a)
		return a.N
	}
}

// choices returns the steps by which an event can be executed: the next question after some answers has each of its alternatives.
func (m *model) choices(e api.Event, answers []api.Answer) []api.Step {
	s, err := m.clone().step(e, answers)
	if err != api.OK {
		return nil
	}
	if len(s.Asks) == len(answers) {
		return []api.Step{s}
	}
	var l []api.Step
	next := s.Asks[len(answers)]
	for n := range next.Arity {
		l = append(l, m.choices(e, append(slices.Clone(answers), api.Answer{Q: next.Q, N: n}))...)
	}
	return l
}

// flight returns the messages in flight in order.
func (m *model) flight() []api.Envelope {
	l := slices.DeleteFunc(slices.Clone(m.sent), func(x api.Envelope) bool { return m.gone[x.Msg] })
	slices.SortFunc(l, func(x, y api.Envelope) int { return names.CompareMsg(x.Msg, y.Msg) })
	return l
}

// allFailures returns the failures, node by node.
func (m *model) allFailures() []api.Failure {
	var l []api.Failure
	for n := range m.nodes {
		l = append(l, m.failures[n]...)
	}
	return l
}

// coverage returns the instructions in order.
func (m *model) coverage() []api.Ins {
	var l []api.Ins
	for i := range m.covered {
		l = append(l, i)
	}
	slices.SortFunc(l, func(a, b api.Ins) int { return slices.Compare([]int{a.Op, a.N}, []int{b.Op, b.N}) })
	return l
}

// hash returns the hash that the chapter defines.
func (m *model) hash() uint64 {
	truth := map[bool]int{true: 1}
	var l []int
	for n, s := range m.nodes {
		l = append(l, truth[s.Up], s.Version, s.Epoch, s.Clock, len(s.Disk.Cells))
		l = append(append(l, s.Disk.Cells...), len(s.Disk.Pending))
		for _, p := range s.Disk.Pending {
			l = append(l, p.Var, p.Value)
		}
		l = append(append(l, len(s.Volatile)), s.Volatile...)
		l = append(append(l, len(s.Timers)), s.Timers...)
		for h := range 41 {
			l = append(l, s.Counts[h])
		}
		l = append(l, s.Waiting, s.Dropped, s.Doubled, m.next(n))
	}
	l = append(l, len(m.flight()))
	for _, x := range m.flight() {
		l = append(l, x.Msg.Cause.Node, x.Msg.Cause.Handler, x.Msg.Cause.Count, x.Msg.Index, x.Msg.Copy, x.To, x.Kind, x.A, x.B)
	}
	l = append(l, len(m.obs))
	for _, o := range m.obs {
		l = append(l, truth[o.Reply], o.Request, o.Node, o.Epoch, o.Value)
	}
	l = append(l, len(m.allFailures()))
	for _, f := range m.allFailures() {
		l = append(l, f.Cause.Node, f.Cause.Handler, f.Cause.Count, f.Code)
	}
	return hash.Sum("world", l...)
}

// text returns a value as a text, in which nil and empty lists are the same.
func text(x any) string { return fmt.Sprintf("%+v", x) }

// checkSame fails the test unless two values are the same.
func checkSame(t *testing.T, what string, got, want any) {
	t.Helper()
	if g, w := text(got), text(want); g != w {
		t.Fatalf("%s:\n%s\nwant:\n%s", what, g, w)
	}
}

// state returns everything that the functions tell about the state of a simulation.
func state(w *World) string {
	var nodes, traces []any
	for n := range w.Config().First {
		nodes, traces = append(nodes, w.Node(n)), append(traces, w.Trace(n))
	}
	return text([]any{w.Len(), nodes, traces, w.Flight(), w.Observations(), w.Failures(), w.Covered(), w.Enabled(), w.Hash(), w.Config()})
}

// checkWorld compares the state of a simulation with that of a model.
func checkWorld(t *testing.T, w *World, m *model) {
	t.Helper()
	checkSame(t, "the number of steps", w.Len(), m.steps)
	for n := -1; n <= len(m.nodes); n++ {
		var want api.NodeState
		if n >= 0 && n < len(m.nodes) {
			want = m.nodes[n]
		}
		checkSame(t, "the state of a node", w.Node(n), want)
		checkSame(t, "the trace of a node", w.Trace(n), m.traces[n])
	}
	checkSame(t, "the messages in flight", w.Flight(), m.flight())
	checkSame(t, "the observations", w.Observations(), m.obs)
	checkSame(t, "the failures", w.Failures(), m.allFailures())
	checkSame(t, "the instructions", w.Covered(), m.coverage())
	checkSame(t, "the enabled events", w.Enabled(), m.enabled())
	checkSame(t, "the configuration", w.Config(), m.c)
	if got, want := w.Hash(), m.hash(); got != want {
		t.Fatalf("the hash is %x, want %x", got, want)
	}
}

// checkChoices compares the steps by which an event can be executed with those of a model.
func checkChoices(t *testing.T, w *World, m *model, e api.Event) []api.Step {
	t.Helper()
	before := state(w)
	got := w.Choices(e)
	checkSame(t, "the choices", got, m.choices(e, nil))
	for i := 1; i < len(got); i++ {
		if names.CompareStep(got[i-1], got[i]) != -1 {
			t.Fatalf("the choices %+v are not in order", got)
		}
	}
	checkSame(t, "the state after the choices", state(w), before)
	return got
}

// checkStep executes an event and compares the step and the state with the model.
func checkStep(t *testing.T, w *World, m *model, e api.Event, answers []api.Answer) (api.Step, api.Errno) {
	t.Helper()
	got, err := w.Step(e, answers)
	want, wantErr := m.step(e, answers)
	checkSame(t, "the step", got, want)
	checkSame(t, "the error", err, wantErr)
	return got, err
}

// started returns a simulation of a configuration and its model.
func started(t *testing.T, c api.Config) (*World, *model) {
	t.Helper()
	w, e := New(c)
	if e != api.OK {
		t.Fatalf("no simulation of %+v: error %d", c, e)
	}
	return w, newModel(c)
}

// programs returns the programs of some sources.
func programs(t *testing.T, sources ...string) []api.Program {
	t.Helper()
	var l []api.Program
	for _, s := range sources {
		p, e := compile.Build(s)
		if e != api.OK {
			t.Fatalf("no program: %q: error %d", s, e)
		}
		l = append(l, p)
	}
	return l
}
