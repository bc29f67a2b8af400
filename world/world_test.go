package world

import (
	"math"
	"slices"
	"strings"
	"testing"

	"simproof/api"
	"simproof/hash"
	"simproof/names"
)

// event returns an event that is not about a message.
func event(kind, n, arg int) api.Event { return api.Event{Kind: kind, Node: n, Arg: arg} }

// about returns an event that is about a message.
func about(kind, n int, m api.Msg) api.Event { return api.Event{Kind: kind, Node: n, Msg: m} }

// sentBy returns the name of a message.
func sentBy(n, handler, count, index int) api.Msg {
	return api.Msg{Cause: api.Cause{Node: n, Handler: handler, Count: count}, Index: index}
}

// doubleOf returns the name of a duplicate.
func doubleOf(m api.Msg, copies int) api.Msg {
	m.Copy = copies
	return m
}

// after returns a simulation of a configuration after some events, and its model.
func after(t *testing.T, c api.Config, events ...api.Event) (*World, *model) {
	t.Helper()
	w, m := started(t, c)
	for _, e := range events {
		if _, err := checkStep(t, w, m, e, nil); err != api.OK {
			t.Fatalf("%+v: error %d", e, err)
		}
	}
	checkWorld(t, w, m)
	return w, m
}

// P15.2: the chapter's example.
func TestExample(t *testing.T) {
	c := api.Config{Programs: programs(t, ""), First: []int{0}}
	w, _ := after(t, c)
	checkSame(t, "the enabled events", w.Enabled(), []api.Event{event(api.EvStart, 0, 0)})
	w, _ = after(t, c, event(api.EvStart, 0, 0))
	checkSame(t, "the enabled events", w.Enabled(), []api.Event{})
}

// filled returns a list with a number of equal elements.
func filled[T any](n int, x T) []T {
	l := make([]T, n)
	for i := range l {
		l[i] = x
	}
	return l
}

// valid returns a valid configuration.
func valid(t *testing.T) api.Config {
	t.Helper()
	return api.Config{Programs: programs(t, "", "volatile v; on request { v = a; }"), First: []int{0, 1}, Restarts: []int{1, 0}, Requests: []api.Request{{Node: 1, Op: 1, Key: 2, Arg: 3}}, Crashes: 1, Drops: 2, Dups: 3, Drift: 1}
}

// P15.1: valid configurations, up to each limit.
func TestValidConfigurations(t *testing.T) {
	for i, change := range []func(c *api.Config){
		func(c *api.Config) {},
		func(c *api.Config) { c.First = filled(12, 1) },
		func(c *api.Config) { c.First, c.Requests = []int{1}, nil },
		func(c *api.Config) { c.Programs, c.First = filled(64, c.Programs[0]), []int{63, 0} },
		func(c *api.Config) { c.Programs, c.First, c.Restarts = c.Programs[:1], []int{0, 0}, nil },
		func(c *api.Config) { c.Restarts = filled(1000, 1) },
		func(c *api.Config) { c.Restarts = nil },
		func(c *api.Config) { c.Requests = filled(300, c.Requests[0]) },
		func(c *api.Config) {
			c.Requests = []api.Request{{Op: -api.MaxValue, Key: api.MaxValue, Arg: -api.MaxValue}}
		},
		func(c *api.Config) {
			c.Requests = []api.Request{{Op: api.MaxValue, Key: -api.MaxValue, Arg: api.MaxValue}}
		},
		func(c *api.Config) { c.Crashes, c.Drops, c.Dups, c.Drift = 10, 10, 10, 3 },
		func(c *api.Config) { c.Crashes, c.Drops, c.Dups, c.Drift = 0, 0, 0, 0 },
	} {
		c := valid(t)
		change(&c)
		w, e := New(c)
		if e != api.OK || Check(c) != api.OK {
			t.Fatalf("configuration %d: errors %d, %d", i, e, Check(c))
		}
		checkWorld(t, w, newModel(c))
	}
}

// P15.1: each reason why a configuration is not valid.
func TestInvalidConfigurations(t *testing.T) {
	changes := []func(c *api.Config){
		func(c *api.Config) { c.First = nil },
		func(c *api.Config) { c.First, c.Requests = []int{}, nil },
		func(c *api.Config) { c.First = filled(13, 0) },
		func(c *api.Config) { c.Programs = nil },
		func(c *api.Config) { c.Programs, c.First, c.Restarts, c.Requests = nil, nil, nil, nil },
		func(c *api.Config) { c.Programs = filled(65, c.Programs[0]) },
		func(c *api.Config) { c.Programs = append(c.Programs, api.Program{Durable: -1}) },
		func(c *api.Config) { c.Programs[0].Code = filled(api.MaxCode+1, api.Ins{Op: api.OpStop}) },
		func(c *api.Config) { c.Programs[0].Code = []api.Ins{{Op: api.OpJump, N: 5}} },
		func(c *api.Config) {
			c.Programs = append(c.Programs, api.Program{Code: []api.Ins{{Op: api.OpFail}, {Op: api.OpStop}}})
		},
		func(c *api.Config) { c.Requests = filled(301, c.Requests[0]) },
	}
	for _, n := range []int{math.MinInt, -1, 2, math.MaxInt} {
		changes = append(changes,
			func(c *api.Config) { c.First[0] = n },
			func(c *api.Config) { c.First[1] = n },
			func(c *api.Config) { c.Restarts[0] = n },
			func(c *api.Config) { c.Restarts[1] = n },
			func(c *api.Config) { c.Requests = append(c.Requests, api.Request{Node: n}) })
	}
	for _, n := range []int{math.MinInt, -api.MaxValue - 1, api.MaxValue + 1, math.MaxInt} {
		changes = append(changes,
			func(c *api.Config) { c.Requests[0].Op = n },
			func(c *api.Config) { c.Requests[0].Key = n },
			func(c *api.Config) { c.Requests = append(c.Requests, api.Request{Arg: n}) })
	}
	for _, n := range []int{math.MinInt, -1, 11, math.MaxInt} {
		changes = append(changes,
			func(c *api.Config) { c.Crashes = n },
			func(c *api.Config) { c.Drops = n },
			func(c *api.Config) { c.Dups = n },
			func(c *api.Config) { c.Drift = n })
	}
	changes = append(changes, func(c *api.Config) { c.Drift = 4 })
	for i, change := range changes {
		c := valid(t)
		change(&c)
		if w, e := New(c); w != nil || e != api.ErrConfig || Check(c) != api.ErrConfig {
			t.Errorf("configuration %d: errors %d and %d", i, e, Check(c))
		}
	}
}

// P15.2: a node starts with its first version, then with one of those for restarts, each once, or with its own one.
func TestVersionsOfStarts(t *testing.T) {
	c := api.Config{Programs: programs(t, "", "", "", ""), First: []int{3, 1}, Crashes: 3}
	for restarts, want := range map[string][]int{"": nil, "2": {2}, "3": {3}, "0312": {0, 1, 2, 3}, "2112": {1, 2}, "30003": {0, 3}} {
		c.Restarts = nil
		for _, r := range restarts {
			c.Restarts = append(c.Restarts, int(r-'0'))
		}
		w, _ := after(t, c)
		checkSame(t, "the enabled events", w.Enabled(), []api.Event{event(api.EvStart, 0, 3), event(api.EvStart, 1, 1)})
		w, m := after(t, c, event(api.EvStart, 0, 3), event(api.EvCrash, 0, 0))
		var events []api.Event
		for _, v := range append(want, filled(max(0, 1-len(want)), 3)...) {
			events = append(events, event(api.EvStart, 0, v))
		}
		checkSame(t, "the enabled events", w.Enabled(), append(events, event(api.EvStart, 1, 1)))
		last := events[len(events)-1]
		checkStep(t, w, m, last, nil)
		checkSame(t, "the version", w.Node(0).Version, last.Arg)
		checkWorld(t, w, m)
	}
}

// P15.2, P15.3: requests are invoked in the order of their indices at each node, one after another.
func TestRequests(t *testing.T) {
	c := api.Config{Programs: programs(t, "volatile o, k, x, i; on request { o = op; k = key; x = a; i = id; if op > 1 { reply id, op * 10; reply id, 3; } timer 5; } on timer 5 { reply 1, 77; reply 0, 44; }"), First: []int{0, 0, 0}, Crashes: 1,
		Requests: []api.Request{{Node: 1, Op: 1, Key: 5, Arg: 6}, {Node: 0, Op: 1, Key: -7, Arg: 8}, {Node: 1, Op: 9, Key: 9, Arg: -9}, {Node: 1, Op: 0}, {Node: 0, Op: 2}}}
	w, m := after(t, c, event(api.EvStart, 1, 0), event(api.EvStart, 0, 0), event(api.EvStart, 2, 0))
	crashes := []api.Event{event(api.EvCrash, 0, 0), event(api.EvCrash, 1, 0), event(api.EvCrash, 2, 0)}
	checkSame(t, "the enabled events", w.Enabled(), append([]api.Event{event(api.EvInvoke, 0, 1), event(api.EvInvoke, 1, 0)}, crashes...))
	s, _ := checkStep(t, w, m, event(api.EvInvoke, 1, 0), nil)
	if !s.Observable {
		t.Error("the invocation is not observable")
	}
	checkSame(t, "the variables", w.Trace(1)[1], []int{1, 5, 6, 0})
	// Node 1 waits for a reply, which timer 5 gives.
	checkSame(t, "the enabled events", w.Enabled(), append([]api.Event{event(api.EvInvoke, 0, 1), event(api.EvTimer, 1, 5)}, crashes...))
	s, _ = checkStep(t, w, m, event(api.EvTimer, 1, 5), nil)
	if !s.Observable {
		t.Error("the reply is not observable")
	}
	checkStep(t, w, m, event(api.EvInvoke, 1, 2), nil)
	// The timer is set again, but there is no request to reply to.
	s, _ = checkStep(t, w, m, event(api.EvTimer, 1, 5), nil)
	if s.Observable {
		t.Error("a timer is observable")
	}
	checkStep(t, w, m, crashes[1], nil)
	checkStep(t, w, m, event(api.EvStart, 1, 0), nil)
	checkStep(t, w, m, event(api.EvInvoke, 1, 3), nil)
	checkStep(t, w, m, event(api.EvInvoke, 0, 1), nil)
	checkStep(t, w, m, crashes[0], nil)
	checkStep(t, w, m, event(api.EvStart, 0, 0), nil)
	// The request that a crash interrupted is not invoked again.
	checkStep(t, w, m, event(api.EvInvoke, 0, 4), nil)
	checkSame(t, "the enabled events", w.Enabled(), []api.Event{event(api.EvTimer, 0, 5), event(api.EvTimer, 1, 5), crashes[2]})
	checkSame(t, "the observations", w.Observations(), []api.Obs{
		{Request: 0, Node: 1}, {Reply: true, Request: 0, Node: 1, Value: 44}, {Request: 2, Node: 1}, {Reply: true, Request: 2, Node: 1, Value: 90},
		{Request: 3, Node: 1, Epoch: 1}, {Request: 1}, {Request: 4, Epoch: 1}, {Reply: true, Request: 4, Epoch: 1, Value: 20}})
	checkWorld(t, w, m)
}

// P15.3: a program without a handler for requests receives them as well.
func TestRequestsWithoutHandler(t *testing.T) {
	c := api.Config{Programs: programs(t, ""), First: []int{0}, Requests: filled(2, api.Request{}), Crashes: 1}
	w, m := after(t, c, event(api.EvStart, 0, 0), event(api.EvInvoke, 0, 0))
	checkSame(t, "the enabled events", w.Enabled(), []api.Event{event(api.EvCrash, 0, 0)})
	checkStep(t, w, m, event(api.EvCrash, 0, 0), nil)
	checkStep(t, w, m, event(api.EvStart, 0, 0), nil)
	checkSame(t, "the enabled events", w.Enabled(), []api.Event{event(api.EvInvoke, 0, 1)})
	checkSame(t, "the trace", w.Trace(0), [][]int{{}, {}, {}, {}})
}

// relay is a program that sends two messages when it starts.
const relay = "volatile f, x, y; on start { send 1, 4, self + 10, 20; send 1 - self, 6, 30, 40; } on message 4 { f = from; x = a; y = b; } on message 6 { f = -1; }"

// P15.2, P15.3: messages are delivered to their receivers, dropped and duplicated.
func TestMessages(t *testing.T) {
	c := api.Config{Programs: programs(t, relay), First: []int{0, 0}, Drops: 1, Dups: 2}
	w, m := started(t, c)
	first, second := sentBy(0, api.OnStart, 0, 0), sentBy(0, api.OnStart, 0, 1)
	s, _ := checkStep(t, w, m, event(api.EvStart, 0, 0), nil)
	checkSame(t, "the messages sent", s.Sent, []api.Msg{first, second})
	// Node 1 is not up, but messages to it can be lost and duplicated.
	checkSame(t, "the enabled events", w.Enabled(), []api.Event{event(api.EvStart, 1, 0), about(api.EvDrop, 1, first), about(api.EvDrop, 1, second), about(api.EvDup, 1, first), about(api.EvDup, 1, second)})
	s, _ = checkStep(t, w, m, about(api.EvDup, 1, first), nil)
	checkSame(t, "the step", s, api.Step{Event: about(api.EvDup, 1, first)})
	checkStep(t, w, m, about(api.EvDup, 1, doubleOf(first, 1)), nil)
	checkSame(t, "the messages", w.Flight(), []api.Envelope{
		{Msg: first, To: 1, Kind: 4, A: 10, B: 20}, {Msg: doubleOf(first, 1), To: 1, Kind: 4, A: 10, B: 20}, {Msg: doubleOf(first, 2), To: 1, Kind: 4, A: 10, B: 20}, {Msg: second, To: 1, Kind: 6, A: 30, B: 40}})
	checkStep(t, w, m, about(api.EvDrop, 1, doubleOf(first, 1)), nil)
	checkSame(t, "the enabled events", w.Enabled(), []api.Event{event(api.EvStart, 1, 0)})
	checkStep(t, w, m, event(api.EvStart, 1, 0), nil)
	own, other := sentBy(1, api.OnStart, 0, 0), sentBy(1, api.OnStart, 0, 1)
	deliveries := []api.Event{about(api.EvDeliver, 0, other), about(api.EvDeliver, 1, first), about(api.EvDeliver, 1, doubleOf(first, 2)), about(api.EvDeliver, 1, second), about(api.EvDeliver, 1, own)}
	checkSame(t, "the enabled events", w.Enabled(), append(slices.Clone(deliveries), about(api.EvDrop, 0, other), about(api.EvDup, 0, other)))
	for _, e := range deliveries {
		checkStep(t, w, m, e, nil)
	}
	checkSame(t, "the trace", w.Trace(1), [][]int{{0, 0, 0}, {0, 10, 20}, {0, 10, 20}, {-1, 10, 20}, {1, 11, 20}})
	checkSame(t, "the counts", []int{w.Node(1).Dropped, w.Node(1).Doubled, w.Node(1).Counts[api.OnMessage+4], w.Node(1).Counts[api.OnMessage+6]}, []int{1, 2, 3, 1})
	checkSame(t, "the enabled events", w.Enabled(), []api.Event{})
	checkWorld(t, w, m)
}

// P15.2: the numbers of drops and duplications count for each node, whether it crashed or not.
func TestFaultsOfEachNode(t *testing.T) {
	c := api.Config{Programs: programs(t, "on start { send 0, 0, 0, 0; send 1, 0, 0, 0; }"), First: []int{0, 0}, Crashes: 2, Drops: 2, Dups: 1}
	w, m := after(t, c, event(api.EvStart, 0, 0), event(api.EvStart, 1, 0), about(api.EvDrop, 0, sentBy(0, 0, 0, 0)), event(api.EvCrash, 0, 0), about(api.EvDup, 0, sentBy(1, 0, 0, 0)), about(api.EvDrop, 0, sentBy(1, 0, 0, 0)))
	checkSame(t, "the enabled events", w.Enabled(), []api.Event{event(api.EvStart, 0, 0), about(api.EvDeliver, 1, sentBy(0, 0, 0, 1)), about(api.EvDeliver, 1, sentBy(1, 0, 0, 1)),
		about(api.EvDrop, 1, sentBy(0, 0, 0, 1)), about(api.EvDrop, 1, sentBy(1, 0, 0, 1)), about(api.EvDup, 1, sentBy(0, 0, 0, 1)), about(api.EvDup, 1, sentBy(1, 0, 0, 1)), event(api.EvCrash, 1, 0)})
	checkStep(t, w, m, event(api.EvStart, 0, 0), nil)
	checkStep(t, w, m, event(api.EvCrash, 0, 0), nil)
	checkStep(t, w, m, event(api.EvStart, 0, 0), nil)
	checkSame(t, "the crashes", slices.Contains(w.Enabled(), event(api.EvCrash, 0, 0)), false)
	checkWorld(t, w, m)
}

// P15.3: a timer that expires is no longer set, unless its handler sets it again.
func TestTimers(t *testing.T) {
	c := api.Config{Programs: programs(t, "volatile n; on start { timer 3; timer 0; timer 7; } on timer 0 { timer 0; n = n + 1; } on timer 3 { cancel 7; n = n + 10; }"), First: []int{0}}
	w, m := after(t, c, event(api.EvStart, 0, 0))
	checkSame(t, "the enabled events", w.Enabled(), []api.Event{event(api.EvTimer, 0, 0), event(api.EvTimer, 0, 3), event(api.EvTimer, 0, 7)})
	checkStep(t, w, m, event(api.EvTimer, 0, 0), nil)
	checkSame(t, "the timers", w.Node(0).Timers, []int{0, 3, 7})
	checkStep(t, w, m, event(api.EvTimer, 0, 3), nil)
	checkSame(t, "the timers", w.Node(0).Timers, []int{0})
	checkSame(t, "the trace", w.Trace(0), [][]int{{0}, {1}, {11}})
	w, _ = after(t, c, event(api.EvStart, 0, 0), event(api.EvTimer, 0, 7))
	checkSame(t, "the timers", w.Node(0).Timers, []int{0, 3})
	checkSame(t, "the trace", w.Trace(0), [][]int{{0}, {0}})
}

// P15.3: the last answer to a question counts, a negative one as 0, modulo the number of alternatives.
func TestAnswers(t *testing.T) {
	c := api.Config{Programs: programs(t, "volatile n; on start { n = now * 100 + draw(4) * 10 + draw(3); }"), First: []int{0, 0}, Drift: 3}
	tick := api.Question{Cause: api.Cause{Node: 1}, Kind: api.QTick}
	draw, second := tick, tick
	draw.Kind, second.Kind, second.Index = api.QDraw, api.QDraw, 1
	others := []api.Answer{{Q: api.Question{Kind: api.QDraw}, N: 1}, {Q: api.Question{Cause: api.Cause{Node: 1, Count: 1}, Kind: api.QDraw}, N: 1}, {Q: api.Question{Cause: api.Cause{Node: 1, Handler: 1}, Kind: api.QDraw}, N: 1},
		{Q: api.Question{Cause: api.Cause{Node: 1}, Kind: api.QKeep}, N: 1}, {Q: api.Question{Cause: api.Cause{Node: 1}, Kind: api.QDraw, Index: 2}, N: 1}, {Q: api.Question{Cause: api.Cause{Node: 1}, Kind: api.QTick, Index: 1}, N: 1}}
	for _, test := range []struct {
		answers []api.Answer
		tick    int
		draws   [2]int
	}{
		{nil, 0, [2]int{0, 0}},
		{others, 0, [2]int{0, 0}},
		{[]api.Answer{{Q: draw, N: 3}}, 0, [2]int{3, 0}},
		{[]api.Answer{{Q: draw, N: 4}, {Q: second, N: 4}, {Q: tick, N: 4}}, 0, [2]int{0, 1}},
		{[]api.Answer{{Q: draw, N: 1}, {Q: tick, N: 3}, {Q: draw, N: 2}, {Q: second, N: 2}}, 3, [2]int{2, 2}},
		{[]api.Answer{{Q: draw, N: 3}, {Q: draw, N: -1}, {Q: second, N: math.MinInt}}, 0, [2]int{0, 0}},
		{[]api.Answer{{Q: draw, N: math.MaxInt}, {Q: second, N: math.MaxInt}, {Q: tick, N: math.MaxInt}}, math.MaxInt % 4, [2]int{math.MaxInt % 4, math.MaxInt % 3}},
	} {
		for _, answers := range [][]api.Answer{test.answers, slices.Concat(others, test.answers), slices.Concat(test.answers, others)} {
			w, m := started(t, c)
			s, _ := checkStep(t, w, m, event(api.EvStart, 1, 0), answers)
			checkSame(t, "the questions", s.Asks, []api.Ask{{Q: tick, Arity: 4, N: test.tick}, {Q: draw, Arity: 4, N: test.draws[0]}, {Q: second, Arity: 3, N: test.draws[1]}})
			checkSame(t, "the trace", w.Trace(1), [][]int{{(1+test.tick)*100 + test.draws[0]*10 + test.draws[1]}})
		}
	}
}

// P15.3, P15.4: a crash asks which writes survive, and its questions are counted apart from those of handlers.
func TestCrashes(t *testing.T) {
	c := api.Config{Programs: programs(t, "durable d, e; volatile v; on start { d = d + 1; sync; d = d + 1; e = 5; v = 6; timer 1; }"), First: []int{0}, Crashes: 2, Drift: 1}
	w, m := after(t, c, event(api.EvStart, 0, 0))
	crash := event(api.EvCrash, 0, 0)
	var got [][2]int
	for _, s := range checkChoices(t, w, m, crash) {
		got = append(got, [2]int{s.Asks[0].N, s.Asks[1].N})
		checkSame(t, "the step", s, api.Step{Event: crash, Asks: []api.Ask{
			{Q: api.Question{Cause: api.Cause{Handler: api.OnCrash}, Kind: api.QKeep}, Arity: 2, N: s.Asks[0].N},
			{Q: api.Question{Cause: api.Cause{Handler: api.OnCrash}, Kind: api.QKeep, Index: 1}, Arity: 2, N: s.Asks[1].N}}})
	}
	checkSame(t, "the answers", got, [][2]int{{0, 0}, {0, 1}, {1, 0}, {1, 1}})
	checkStep(t, w, m, crash, []api.Answer{{Q: api.Question{Cause: api.Cause{Handler: api.OnCrash}, Kind: api.QKeep}, N: 1}})
	checkStep(t, w, m, event(api.EvStart, 0, 0), nil)
	checkStep(t, w, m, crash, []api.Answer{{Q: api.Question{Cause: api.Cause{Handler: api.OnCrash, Count: 1}, Kind: api.QKeep, Index: 1}, N: 1}})
	checkSame(t, "the trace", w.Trace(0), [][]int{{2, 5, 6}, {2, 0, 0}, {4, 5, 6}, {3, 5, 0}})
	checkSame(t, "the enabled events", w.Enabled(), []api.Event{event(api.EvStart, 0, 0)})
	checkWorld(t, w, m)
}

// P15.4: the alternatives of a question can depend on earlier answers.
func TestChoices(t *testing.T) {
	c := api.Config{Programs: programs(t, "on start { if draw(3) == 1 { send 0, 1, draw(0), draw(2); } else { timer 1; } } on timer 1 {}"), First: []int{0}}
	w, m := after(t, c)
	l := checkChoices(t, w, m, event(api.EvStart, 0, 0))
	var got [][]int
	for _, s := range l {
		var answers []int
		for _, a := range s.Asks {
			answers = append(answers, a.N)
		}
		got = append(got, append(answers, len(s.Sent)))
	}
	checkSame(t, "the answers and the numbers of messages", got, [][]int{{0, 0}, {1, 0, 1}, {1, 1, 1}, {2, 0}})
	checkStep(t, w, m, event(api.EvStart, 0, 0), nil)
	checkSame(t, "the choices of a timer", w.Choices(event(api.EvTimer, 0, 1)), []api.Step{{Event: event(api.EvTimer, 0, 1)}})
	checkSame(t, "the choices of another timer", w.Choices(event(api.EvTimer, 0, 2)), []api.Step{})
}

// P15.4: as many choices as seven draws of four have.
func TestManyChoices(t *testing.T) {
	c := api.Config{Programs: programs(t, "volatile n; on start { while n < 7 { n = n + 1; send 0, 1, draw(4), n; } }"), First: []int{0}}
	w, _ := after(t, c)
	l := w.Choices(event(api.EvStart, 0, 0))
	if len(l) != 1<<14 || w.Len() != 0 {
		t.Fatalf("%d choices", len(l))
	}
	for i, s := range l {
		for k, a := range s.Asks {
			if want := i >> (2 * (6 - k)) & 3; a.N != want || len(s.Asks) != 7 || len(s.Sent) != 7 {
				t.Fatalf("choice %d is %+v", i, s)
			}
		}
		if i > 0 && names.CompareStep(l[i-1], s) != -1 {
			t.Fatalf("choice %d is not in order", i)
		}
	}
}

// ticking is a program that can go on forever.
const ticking = "volatile n; on start { timer 0; } on timer 0 { n = n + 1; timer 0; }"

// P15.3, P15.4: after MaxSteps steps there are no further ones, although events are enabled. The limit comes before the event.
func TestLimit(t *testing.T) {
	w, _ := started(t, api.Config{Programs: programs(t, ticking), First: []int{0, 0}, Crashes: 10})
	tick := event(api.EvTimer, 0, 0)
	w.Step(event(api.EvStart, 0, 0), nil)
	for i := range 4999 {
		if w.Len() != i+1 || len(w.Choices(tick)) != 1 {
			t.Fatalf("%d steps and %d choices", w.Len(), len(w.Choices(tick)))
		}
		if _, err := w.Step(tick, nil); err != api.OK {
			t.Fatalf("step %d: error %d", i, err)
		}
	}
	before := state(w)
	for _, e := range append(w.Enabled(), event(api.EvTimer, 0, 1), api.Event{}, event(api.EvInvoke, 9, 9)) {
		if s, err := w.Step(e, nil); err != api.ErrLimit || text(s) != text(api.Step{}) || len(w.Choices(e)) > 0 {
			t.Errorf("%+v: %+v, error %d", e, s, err)
		}
	}
	checkSame(t, "the state", state(w), before)
	checkSame(t, "the number of steps", w.Len(), 5000)
	checkSame(t, "the enabled events", w.Enabled(), []api.Event{event(api.EvStart, 1, 0), tick, event(api.EvCrash, 0, 0)})
	checkSame(t, "the last variables", w.Trace(0)[4999], []int{4999})
	checkSame(t, "the length of a clone", w.Clone().Len(), 5000)
}

// P15.5: there is nothing where there is no node.
func TestOutsideTheDomain(t *testing.T) {
	w, _ := after(t, valid(t), event(api.EvStart, 0, 0))
	for _, i := range []int{math.MinInt, -1, 2, math.MaxInt} {
		checkSame(t, "the state", w.Node(i), api.NodeState{})
		checkSame(t, "the trace", w.Trace(i), [][]int{})
	}
	for _, x := range []int{math.MinInt, -1, 0, 8, api.MaxValue + 1, math.MaxInt} {
		for _, e := range []api.Event{{Kind: x}, {Kind: x, Node: x, Arg: x}, {Kind: api.EvStart, Node: x - 2}, {Kind: api.EvTimer, Arg: x}, {Kind: api.EvInvoke, Arg: x}, {Kind: api.EvDeliver, Msg: api.Msg{Index: x}}, {Kind: api.EvCrash, Arg: 1 | x}, {Kind: api.EvStart, Node: 1, Arg: 1, Msg: api.Msg{Copy: 1 | x}}} {
			if s, err := w.Step(e, []api.Answer{{N: x}}); err != api.ErrEvent || text(s) != text(api.Step{}) || len(w.Choices(e)) > 0 {
				t.Errorf("%+v: %+v, error %d", e, s, err)
			}
		}
	}
	checkSame(t, "the number of steps", w.Len(), 1)
	// A simulation that no constructor returned has no nodes.
	var none World
	checkSame(t, "the state", state(&none), text([]any{0, []int{}, []int{}, []int{}, []int{}, []int{}, []int{}, []int{}, hash.Sum("world", 0, 0, 0), api.Config{}}))
	if _, err := none.Clone().Step(event(api.EvStart, 0, 0), nil); err != api.ErrEvent {
		t.Errorf("error %d", err)
	}
}

// P15.5: failures are listed node by node, in the order of their reports.
func TestFailures(t *testing.T) {
	c := api.Config{Programs: programs(t, "on start { fail 5; fail 4; timer 2; } on timer 2 { fail self; }"), First: []int{0, 0, 0}}
	w, _ := after(t, c, event(api.EvStart, 2, 0), event(api.EvStart, 0, 0), event(api.EvTimer, 2, 2), event(api.EvTimer, 0, 2))
	timed := func(n int) api.Cause { return api.Cause{Node: n, Handler: api.OnTimer + 2} }
	checkSame(t, "the failures", w.Failures(), []api.Failure{{Code: 5}, {Code: 4}, {Cause: timed(0), Code: 0}, {Cause: api.Cause{Node: 2}, Code: 5}, {Cause: api.Cause{Node: 2}, Code: 4}, {Cause: timed(2), Code: 2}})
}

// P15.5: the instructions of all versions that were executed, each once.
func TestCovered(t *testing.T) {
	c := api.Config{Programs: programs(t, "", "on start { timer 0; } on timer 0 { fail 1; } on timer 1 { fail 2; }", "on start { if 1 < 2 { timer 1; } else { timer 2; } }"), First: []int{0, 1, 2, 1}}
	events := []api.Event{event(api.EvStart, 0, 0), event(api.EvStart, 2, 2), event(api.EvStart, 1, 1), event(api.EvStart, 3, 1), event(api.EvTimer, 1, 0)}
	w, _ := after(t, c, events[:1]...)
	checkSame(t, "the instructions", w.Covered(), []api.Ins{})
	w, _ = after(t, c, events[:2]...)
	// The comparison, the jump if it is wrong, the timer, the jump to the end, and the stop there.
	checkSame(t, "the instructions", w.Covered(), []api.Ins{{Op: 2, N: 0}, {Op: 2, N: 1}, {Op: 2, N: 2}, {Op: 2, N: 3}, {Op: 2, N: 4}, {Op: 2, N: 5}, {Op: 2, N: 7}})
	w, _ = after(t, c, events[:4]...)
	checkSame(t, "the instructions", w.Covered()[:3], []api.Ins{{Op: 1, N: 0}, {Op: 1, N: 1}, {Op: 2, N: 0}})
	w, _ = after(t, c, events...)
	checkSame(t, "the instructions", w.Covered()[:6], []api.Ins{{Op: 1, N: 0}, {Op: 1, N: 1}, {Op: 1, N: 2}, {Op: 1, N: 3}, {Op: 1, N: 4}, {Op: 2, N: 0}})
}

// P15.5: the last instruction of the longest program, of the last version.
func TestCoveredAtTheLimits(t *testing.T) {
	long := api.Program{Code: filled(api.MaxCode, api.Ins{Op: api.OpSync})}
	long.Code[api.MaxCode-1] = api.Ins{Op: api.OpStop}
	for h := range long.Entry {
		long.Entry[h] = -1
	}
	long.Entry[api.OnStart] = 0
	w, _ := after(t, api.Config{Programs: filled(64, long), First: []int{63}}, event(api.EvStart, 0, 63))
	l := w.Covered()
	if len(l) != 400 || l[0] != (api.Ins{Op: 63, N: 0}) || l[399] != (api.Ins{Op: 63, N: 399}) {
		t.Errorf("the instructions are %v", l)
	}
}

// P15.6: the words of a small state, by hand.
func TestHash(t *testing.T) {
	c := api.Config{Programs: programs(t, "durable d; volatile v; on start { d = 3; v = 4; timer 6; send 1, 2, 5, 6; fail 9; } on request { fail 8; reply id, 7; }"), First: []int{0, 0}, Crashes: 1, Dups: 1, Requests: []api.Request{{}, {}}}
	zeros := func(n int) []int { return make([]int, n) }
	down := slices.Concat([]int{0, -1, 0, 0, 0, 0, 0, 0}, zeros(41), []int{-1, 0, 0})
	w, _ := after(t, c)
	checkSame(t, "the hash", w.Hash(), hash.Sum("world", slices.Concat(down, []int{0}, down, []int{-1}, []int{0, 0, 0})...))
	w, _ = after(t, c, event(api.EvStart, 0, 0), event(api.EvInvoke, 0, 0), about(api.EvDup, 1, sentBy(0, 0, 0, 0)))
	up := slices.Concat([]int{1, 0, 0, 2, 1, 0, 1, 0, 3, 1, 4, 1, 6}, []int{1, 1}, zeros(39), []int{-1, 0, 0, 1})
	down[len(down)-1] = 1
	rest := []int{2, 0, 0, 0, 0, 0, 1, 2, 5, 6, 0, 0, 0, 0, 1, 1, 2, 5, 6, 2, 0, 0, 0, 0, 0, 1, 0, 0, 0, 7, 2, 0, 0, 0, 9, 0, 1, 0, 8}
	checkSame(t, "the hash", w.Hash(), hash.Sum("world", slices.Concat(up, down, []int{-1}, rest)...))
}

// P15.1 to P15.6: a simulation of the greatest size.
func TestLargestConfiguration(t *testing.T) {
	var source strings.Builder
	source.WriteString("durable d, e; volatile v; on start { d = draw(4); send 11, 29, self, now; } on request { reply id, a; e = e + a; } on message 29 { v = a; fail v; }")
	c := api.Config{Programs: filled(64, programs(t, source.String())[0]), First: filled(12, 63), Restarts: []int{0, 63}, Crashes: 10, Drops: 10, Dups: 10, Drift: 3}
	for i := range 300 {
		c.Requests = append(c.Requests, api.Request{Node: i % 12, Arg: i})
	}
	w, m := started(t, c)
	for n := range 12 {
		checkStep(t, w, m, event(api.EvStart, n, 63), nil)
	}
	for i := range 300 {
		checkStep(t, w, m, event(api.EvInvoke, i%12, i), nil)
	}
	for n := range 10 {
		checkStep(t, w, m, about(api.EvDup, 11, sentBy(n, 0, 0, 0)), nil)
		checkStep(t, w, m, about(api.EvDeliver, 11, doubleOf(sentBy(n, 0, 0, 0), n+1)), nil)
		checkStep(t, w, m, event(api.EvCrash, 11, 0), nil)
		checkStep(t, w, m, event(api.EvStart, 11, n%2*63), nil)
	}
	checkWorld(t, w, m)
}
