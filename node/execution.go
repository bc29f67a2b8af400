package node

import (
	"slices"

	"simproof/api"
	"simproof/disk"
)

// execution is an execution of a handler: the state on which its actions take effect, and what it produced for others.
type execution struct {
	state  api.NodeState
	result Result
}

// perform lets an action take effect.
func (x *execution) perform(a api.Act) {
	switch a.Kind {
	case api.ActWrite:
		x.state.Disk = disk.Write(x.state.Disk, a.A, a.B)
	case api.ActSync:
		x.state.Disk = disk.Sync(x.state.Disk)
	case api.ActTimer:
		x.set(a.A)
	case api.ActCancel:
		x.cancel(a.A)
	case api.ActSend:
		x.send(a)
	case api.ActReply:
		x.reply(a.A, a.B)
	case api.ActFail:
		x.result.Failures = append(x.result.Failures, a.A)
	}
}

// set sets a timer. The timers stay in increasing order.
func (x *execution) set(timer int) {
	at, found := slices.BinarySearch(x.state.Timers, timer)
	if !found {
		x.state.Timers = slices.Insert(x.state.Timers, at, timer)
	}
}

// cancel removes a timer.
func (x *execution) cancel(timer int) {
	at, found := slices.BinarySearch(x.state.Timers, timer)
	if found {
		x.state.Timers = slices.Delete(x.state.Timers, at, at+1)
	}
}

// send sends a message.
func (x *execution) send(a api.Act) {
	name := api.Msg{Cause: x.result.Cause, Index: len(x.result.Sent)}
	x.result.Sent = append(x.result.Sent, api.Envelope{Msg: name, To: a.A, Kind: a.B, A: a.C, B: a.D})
}

// reply replies to a request, if the node is waiting for this reply.
func (x *execution) reply(request, value int) {
	if x.state.Waiting == -1 || x.state.Waiting != request {
		return
	}
	x.result.Replied, x.result.Value = true, value
	x.state.Waiting = -1
}

// tick returns by how much a clock advances when a handler is executed.
func tick(drift int, ask Ask) int {
	if drift > 0 {
		return 1 + ask(api.QTick, 0, drift+1)
	}
	return 1
}

// own returns a state equal to s that shares no memory with it but the volatile variables, which every execution replaces.
func own(s api.NodeState) api.NodeState {
	s.Disk = api.Disk{Cells: copied(s.Disk.Cells), Pending: copied(s.Disk.Pending)}
	s.Timers = copied(s.Timers)
	return s
}

// last returns a copy of the last elements of a list, of which there are at least n.
func last(list []int, n int) []int { return copied(list[len(list)-n:]) }

// copied returns a copy of a list.
func copied[T any](list []T) []T {
	l := make([]T, len(list))
	copy(l, list)
	return l
}
