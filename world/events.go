package world

import (
	"slices"

	"simproof/api"
)

// class describes the events of a kind: whether the state of a node permits them, what they can be about there (in order, with the Arg and the Msg alone), and what they do.
type class struct {
	permitted func(*World, int) bool
	subjects  func(*World, int) []api.Event
	execute   func(*World, api.Event, *inquiry) outcome
}

// classes returns the classes of events by their kinds. Kind 0 has none.
func classes() [api.EvCrash + 1]class {
	return [...]class{
		api.EvStart:   {(*World).isDown, (*World).versions, (*World).start},
		api.EvInvoke:  {(*World).isIdle, (*World).nextRequests, (*World).invoke},
		api.EvDeliver: {(*World).isUp, (*World).messages, (*World).deliver},
		api.EvTimer:   {(*World).isUp, (*World).timers, (*World).expire},
		api.EvDrop:    {(*World).canLose, (*World).messages, (*World).drop},
		api.EvDup:     {(*World).canDouble, (*World).messages, (*World).double},
		api.EvCrash:   {(*World).canCrash, (*World).nothing, (*World).crash},
	}
}

// permits reports whether the state of a node permits events of a kind.
func (w *World) permits(kind, n int) bool { return classes()[kind].permitted(w, n) }

// events returns the events of a kind at a node that are enabled if the node's state permits them, in order.
func (w *World) events(kind, n int) []api.Event {
	l := classes()[kind].subjects(w, n)
	for i := range l {
		l[i].Kind, l[i].Node = kind, n
	}
	return l
}

// isEnabled reports whether an event is enabled.
func (w *World) isEnabled(e api.Event) bool {
	if e.Kind < api.EvStart || e.Kind > api.EvCrash || !w.isNode(e.Node) || !w.permits(e.Kind, e.Node) {
		return false
	}
	switch e.Kind {
	case api.EvDeliver, api.EvDrop, api.EvDup:
		// There can be too many messages in flight to list them for each event that is executed.
		m, found := w.flight.find(e.Msg)
		return found && m.To == e.Node && e.Arg == 0
	}
	return slices.Contains(w.events(e.Kind, e.Node), e)
}

// isDown reports whether a node can start.
func (w *World) isDown(n int) bool { return !w.isUp(n) }

// isUp reports whether a node is up.
func (w *World) isUp(n int) bool { return w.members[n].state.Up }

// isIdle reports whether a node can receive a request.
func (w *World) isIdle(n int) bool { return w.isUp(n) && w.members[n].state.Waiting == -1 }

// canLose reports whether further messages to a node can be lost.
func (w *World) canLose(n int) bool { return w.members[n].state.Dropped < w.config.Drops }

// canDouble reports whether further messages to a node can be duplicated.
func (w *World) canDouble(n int) bool { return w.members[n].state.Doubled < w.config.Dups }

// canCrash reports whether a node can crash.
func (w *World) canCrash(n int) bool {
	return w.isUp(n) && w.members[n].state.Counts[api.OnCrash] < w.config.Crashes
}

// versions returns the versions with which a node can start.
func (w *World) versions(n int) []api.Event {
	version := w.members[n].state.Version
	switch {
	case version == -1:
		return numbered(w.config.First[n])
	case len(w.config.Restarts) == 0:
		return numbered(version)
	}
	var l []api.Event
	for v := range w.config.Programs {
		if slices.Contains(w.config.Restarts, v) {
			l = append(l, api.Event{Arg: v})
		}
	}
	return l
}

// nextRequests returns the next request of a node, if there is one.
func (w *World) nextRequests(n int) []api.Event {
	if next := w.next(n); next >= 0 {
		return numbered(next)
	}
	return nil
}

// next returns the next request of a node, or -1.
func (w *World) next(n int) int {
	// A node executes this handler once for each request that is invoked, and they are invoked in order.
	invoked := w.members[n].state.Counts[api.OnRequest]
	if invoked == len(w.requests[n]) {
		return -1
	}
	return w.requests[n][invoked]
}

// messages returns the messages to a node.
func (w *World) messages(n int) []api.Event {
	var l []api.Event
	for _, m := range w.flight.to(n) {
		l = append(l, api.Event{Msg: m})
	}
	return l
}

// timers returns the timers of a node that are set.
func (w *World) timers(n int) []api.Event { return numbered(w.members[n].state.Timers...) }

// nothing is what an event is about that concerns its node alone.
func (w *World) nothing(n int) []api.Event { return []api.Event{{}} }

// numbered returns events with some numbers.
func numbered(numbers ...int) []api.Event {
	var l []api.Event
	for _, n := range numbers {
		l = append(l, api.Event{Arg: n})
	}
	return l
}
