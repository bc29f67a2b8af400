package world

import "simproof/api"

// words is a list of numbers that is built piece by piece.
type words []int

// add adds numbers.
func (l *words) add(numbers ...int) { *l = append(*l, numbers...) }

// addList adds the length of a list and its numbers.
func (l *words) addList(numbers []int) {
	l.add(len(numbers))
	l.add(numbers...)
}

// addNode adds the state of a node and its next request.
func (l *words) addNode(s api.NodeState, next int) {
	l.add(bit(s.Up), s.Version, s.Epoch, s.Clock)
	l.addList(s.Disk.Cells)
	l.add(len(s.Disk.Pending))
	for _, p := range s.Disk.Pending {
		l.add(p.Var, p.Value)
	}
	l.addList(s.Volatile)
	l.addList(s.Timers)
	l.add(s.Counts[:]...)
	l.add(s.Waiting, s.Dropped, s.Doubled, next)
}

// words returns the numbers that make up the state.
func (w *World) words() []int {
	var l words
	for n, m := range w.members {
		l.addNode(m.state, w.next(n))
	}
	flight := w.Flight()
	l.add(len(flight))
	for _, x := range flight {
		c := x.Msg.Cause
		l.add(c.Node, c.Handler, c.Count, x.Msg.Index, x.Msg.Copy, x.To, x.Kind, x.A, x.B)
	}
	l.add(len(w.observations))
	for _, o := range w.observations {
		l.add(bit(o.Reply), o.Request, o.Node, o.Epoch, o.Value)
	}
	failures := w.Failures()
	l.add(len(failures))
	for _, f := range failures {
		l.add(f.Cause.Node, f.Cause.Handler, f.Cause.Count, f.Code)
	}
	return l
}

// bit returns 1 for true and 0 for false.
func bit(b bool) int {
	if b {
		return 1
	}
	return 0
}
