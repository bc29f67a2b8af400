package trace

import "simproof/api"

// wordsOf returns the numbers that make up a run. Different runs have different ones.
func wordsOf(run []api.Step) []int {
	var l []int
	for _, s := range run {
		l = append(l, s.Event.Kind, s.Event.Node, s.Event.Arg)
		l = addMsg(l, s.Event.Msg)
		l = append(l, len(s.Asks))
		for _, a := range s.Asks {
			c := a.Q.Cause
			l = append(l, c.Node, c.Handler, c.Count, a.Q.Kind, a.Q.Index, a.Arity, a.N)
		}
		l = append(l, bit(s.Observable), len(s.Sent))
		for _, m := range s.Sent {
			l = addMsg(l, m)
		}
	}
	return l
}

// addMsg returns a list of numbers with those of a message behind them.
func addMsg(l []int, m api.Msg) []int {
	return append(l, m.Cause.Node, m.Cause.Handler, m.Cause.Count, m.Index, m.Copy)
}

// bit returns 1 for true and 0 for false.
func bit(b bool) int {
	if b {
		return 1
	}
	return 0
}
