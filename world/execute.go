package world

import (
	"slices"

	"simproof/api"
	"simproof/node"
	"simproof/vm"
)

// outcome is what an event changes when it is executed.
type outcome struct {
	state    api.NodeState // the new state of the event's node
	recorded bool          // whether the node's variables are recorded in its trace
	result   node.Result   // of the handler execution, if there was one
	observed []api.Obs
	taken    bool // whether the event's message is no longer in flight
	doubled  bool // whether there is one more duplicate of it
}

// attempt returns the step by which an enabled event is executed with some answers, and the outcome. The simulation is not changed.
func (w *World) attempt(e api.Event, by answering) (api.Step, outcome) {
	q := &inquiry{by: by}
	o := classes()[e.Kind].execute(w, e, q)
	s := api.Step{Event: e, Asks: q.asks, Observable: len(o.observed) > 0}
	for _, x := range o.result.Sent {
		s.Sent = append(s.Sent, x.Msg)
	}
	return s, o
}

// adopt lets the outcome of an event take effect.
func (w *World) adopt(e api.Event, o outcome) {
	m := &w.members[e.Node]
	m.state = o.state
	if o.taken {
		w.flight.remove(e.Msg)
	}
	if o.doubled {
		w.flight.double(e.Msg, o.state.Doubled)
	}
	for _, x := range o.result.Sent {
		w.flight.add(x)
	}
	w.observations = append(w.observations, o.observed...)
	for _, code := range o.result.Failures {
		m.failures = append(m.failures, api.Failure{Cause: o.result.Cause, Code: code})
	}
	for _, i := range o.result.Out.Covered {
		w.covered[o.state.Version].add(i)
	}
	if o.recorded {
		m.trace = append(m.trace, node.Vars(o.state))
	}
	w.steps++
}

// start starts the event's node.
func (w *World) start(e api.Event, q *inquiry) outcome {
	before := w.members[e.Node].state
	ask := q.under(causeOf(before, e.Node, api.OnStart))
	// A node that starts waits for no reply.
	after, result := node.Start(before, w.config.Programs[e.Arg], e.Arg, e.Node, len(w.members), w.config.Drift, ask)
	return outcome{state: after, recorded: true, result: result}
}

// invoke hands a request to the event's node.
func (w *World) invoke(e api.Event, q *inquiry) outcome {
	s, r := w.members[e.Node].state, w.config.Requests[e.Arg]
	s.Waiting = e.Arg
	in := vm.Input{}
	in.Names[api.NameID], in.Names[api.NameOp], in.Names[api.NameKey], in.Names[api.NameA] = e.Arg, r.Op, r.Key, r.Arg
	o := w.handle(s, e.Node, api.OnRequest, in, q)
	invoked := api.Obs{Request: e.Arg, Node: e.Node, Epoch: s.Epoch}
	o.observed = append([]api.Obs{invoked}, o.observed...)
	return o
}

// deliver hands a message to the event's node.
func (w *World) deliver(e api.Event, q *inquiry) outcome {
	m, _ := w.flight.find(e.Msg)
	in := vm.Input{}
	in.Names[api.NameFrom], in.Names[api.NameA], in.Names[api.NameB] = m.Msg.Cause.Node, m.A, m.B
	o := w.handle(w.members[e.Node].state, e.Node, api.OnMessage+m.Kind, in, q)
	o.taken = true
	return o
}

// expire lets a timer of the event's node expire.
func (w *World) expire(e api.Event, q *inquiry) outcome {
	s := w.members[e.Node].state
	s.Timers = slices.DeleteFunc(copied(s.Timers), func(timer int) bool { return timer == e.Arg })
	return w.handle(s, e.Node, api.OnTimer+e.Arg, vm.Input{}, q)
}

// drop loses a message to the event's node.
func (w *World) drop(e api.Event, _ *inquiry) outcome {
	s := w.members[e.Node].state
	s.Dropped++
	return outcome{state: s, taken: true}
}

// double duplicates a message to the event's node.
func (w *World) double(e api.Event, _ *inquiry) outcome {
	s := w.members[e.Node].state
	s.Doubled++
	return outcome{state: s, doubled: true}
}

// crash crashes the event's node.
func (w *World) crash(e api.Event, q *inquiry) outcome {
	s := w.members[e.Node].state
	return outcome{state: node.Crash(s, q.under(causeOf(s, e.Node, api.OnCrash))), recorded: true}
}

// handle lets a node in some state execute a handler.
func (w *World) handle(before api.NodeState, n, handler int, in vm.Input, q *inquiry) outcome {
	ask := q.under(causeOf(before, n, handler))
	after, result := node.Handle(before, w.config.Programs[before.Version], handler, n, len(w.members), w.config.Drift, in, ask)
	o := outcome{state: after, recorded: true, result: result}
	if result.Replied {
		o.observed = []api.Obs{{Reply: true, Request: before.Waiting, Node: n, Epoch: before.Epoch, Value: result.Value}}
	}
	return o
}

// causeOf returns the cause of a node's next execution of a handler, or of its next crash.
func causeOf(s api.NodeState, n, handler int) api.Cause {
	return api.Cause{Node: n, Handler: handler, Count: s.Counts[handler]}
}
