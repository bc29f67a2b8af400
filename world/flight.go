package world

import (
	"slices"

	"simproof/api"
	"simproof/names"
	"simproof/network"
)

// flight holds the messages in flight: a batch for each handler execution that sent some of them, in the order of the names. So the sets stay small, and a message comes and goes quickly however many there are.
type flight []batch

// batch holds the messages in flight that one handler execution sent, and their duplicates, in a set of package network, which is not empty and never changed.
type batch struct {
	cause api.Cause
	set   []api.Envelope
}

// position returns where the batch of a cause is or would be, and whether it is there.
func (f flight) position(cause api.Cause) (int, bool) {
	return slices.BinarySearchFunc(f, cause, func(b batch, c api.Cause) int {
		return names.CompareMsg(api.Msg{Cause: b.cause}, api.Msg{Cause: c})
	})
}

// setOf returns the messages of a cause.
func (f flight) setOf(cause api.Cause) []api.Envelope {
	at, found := f.position(cause)
	if !found {
		return nil
	}
	return f[at].set
}

// replace replaces the messages of a cause.
func (f *flight) replace(cause api.Cause, set []api.Envelope) {
	at, found := f.position(cause)
	switch {
	case !found:
		*f = slices.Insert(*f, at, batch{cause, set})
	case len(set) == 0:
		*f = slices.Delete(*f, at, at+1)
	default:
		(*f)[at].set = set
	}
}

// find returns a message.
func (f flight) find(m api.Msg) (api.Envelope, bool) { return network.Find(f.setOf(m.Cause), m) }

// add adds a message whose name is new.
func (f *flight) add(x api.Envelope) {
	set, _ := network.Add(f.setOf(x.Msg.Cause), x)
	f.replace(x.Msg.Cause, set)
}

// remove removes a message that is there.
func (f *flight) remove(m api.Msg) { f.replace(m.Cause, network.Remove(f.setOf(m.Cause), m)) }

// double duplicates a message that is there. The duplicate's name is new.
func (f *flight) double(m api.Msg, copies int) {
	set, _, _ := network.Copy(f.setOf(m.Cause), m, copies)
	f.replace(m.Cause, set)
}

// to returns the names of the messages to a node, in order.
func (f flight) to(n int) []api.Msg {
	var l []api.Msg
	for _, b := range f {
		l = append(l, network.To(b.set, n)...)
	}
	return l
}

// all returns all messages in order.
func (f flight) all() []api.Envelope {
	var l []api.Envelope
	for _, b := range f {
		l = append(l, b.set...)
	}
	return l
}
