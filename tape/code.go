package tape

import (
	"simproof/api"
	"simproof/names"
	"simproof/wire"
)

// maxAnswers is how many answers an encoding may hold.
const maxAnswers = 10000

// encode returns the encoding of a normal tape.
func encode(t api.Tape) []byte {
	var out wire.Out
	out.Uint(uint64(len(t.Events)))
	for _, e := range t.Events {
		c := e.Msg.Cause
		record(&out, e.Kind, e.Node, e.Arg, c.Node, c.Handler, c.Count, e.Msg.Index, e.Msg.Copy)
	}
	out.Uint(uint64(len(t.Answers)))
	for _, a := range t.Answers {
		c := a.Q.Cause
		record(&out, c.Node, c.Handler, c.Count, a.Q.Kind, a.Q.Index, a.N)
	}
	return out.Done()
}

// record appends the numbers of an event or answer.
func record(out *wire.Out, numbers ...int) {
	for _, n := range numbers {
		out.Int(n)
	}
}

// decode reads an encoding up to the first error. The reader keeps this error, so that checks after it have no effect.
func decode(b []byte) (api.Tape, api.Errno) {
	in := wire.NewIn(b)
	var t api.Tape
	for n := length(in, api.MaxSteps); n > 0 && in.Err() == api.OK; n-- {
		t.Events = append(t.Events, event(in))
	}
	for n := length(in, maxAnswers); n > 0 && in.Err() == api.OK; n-- {
		a := answer(in)
		if k := len(t.Answers); k > 0 && names.CompareQuestion(t.Answers[k-1].Q, a.Q) >= 0 {
			in.Fail(api.ErrOrder)
		}
		if a.N <= 0 {
			in.Fail(api.ErrRange)
		}
		t.Answers = append(t.Answers, a)
	}
	return t, in.End()
}

// length reads the number of elements of a list, which may be at most most.
func length(in *wire.In, most uint64) uint64 {
	n := in.Uint()
	if n > most {
		in.Fail(api.ErrLimit)
	}
	return n
}

// The calls that read a value's numbers are made in the order in which they are written, which has to be that of the encoding.

// cause reads a cause.
func cause(in *wire.In) api.Cause {
	return api.Cause{Node: in.Int(), Handler: in.Int(), Count: in.Int()}
}

// event reads an event.
func event(in *wire.In) api.Event {
	e := api.Event{Kind: in.Int(), Node: in.Int(), Arg: in.Int()}
	e.Msg = api.Msg{Cause: cause(in), Index: in.Int(), Copy: in.Int()}
	return e
}

// answer reads an answer.
func answer(in *wire.In) api.Answer {
	q := api.Question{Cause: cause(in), Kind: in.Int(), Index: in.Int()}
	return api.Answer{Q: q, N: in.Int()}
}
