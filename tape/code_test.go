package tape

import (
	"math"
	"slices"
	"testing"

	"simproof/api"
)

// join returns the bytes of all parts, one after another.
func join(parts ...[]byte) []byte { return slices.Concat(parts...) }

// P11.5: the numbers of events and answers in their order, of the normal tape.
func TestEncode(t *testing.T) {
	event := api.Event{Kind: api.EvDrop, Node: 1, Arg: 2, Msg: api.Msg{Cause: api.Cause{Node: 3, Handler: 4, Count: 70}, Index: 7, Copy: -8}}
	for _, c := range []struct {
		tape api.Tape
		want []byte
	}{
		{api.Tape{}, []byte{0, 0}},
		{api.Tape{Events: []api.Event{{}}}, []byte{1, 0, 0, 0, 0, 0, 0, 0, 0, 0}},
		{api.Tape{Events: []api.Event{event}}, []byte{1, 10, 2, 4, 6, 8, 140, 1, 14, 15, 0}},
		{api.Tape{Answers: []api.Answer{{Q: question(1, 2, 3, 4, -5), N: 6}}}, []byte{0, 1, 2, 4, 6, 8, 9, 12}},
		{api.Tape{Events: starts(2), Answers: give([2]int{1, 1}, [2]int{0, 150}, [2]int{2, 9}, [2]int{2, 0})}, []byte{2, 2, 0, 0, 0, 0, 0, 0, 0, 2, 2, 0, 0, 0, 0, 0, 0, 2, 0, 0, 0, 2, 0, 172, 2, 0, 0, 0, 2, 2, 2}},
		{api.Tape{Answers: give([2]int{0, 0}, [2]int{1, -1})}, []byte{0, 0}},
		{api.Tape{Answers: give([2]int{0, math.MaxInt})}, []byte{0, 1, 0, 0, 0, 2, 0, 254, 255, 255, 255, 255, 255, 255, 255, 255, 1}},
	} {
		if got := Encode(c.tape); !slices.Equal(got, c.want) {
			t.Errorf("the encoding of %v is %d, want %d", c.tape, got, c.want)
		}
		if got, err := Decode(c.want); !same(got, Normal(c.tape)) || err != api.OK {
			t.Errorf("%d is decoded as %v, error %d", c.want, got, err)
		}
	}
}

// P11.5: the first error that occurs.
func TestDecodeErrors(t *testing.T) {
	event := []byte{2, 0, 0, 0, 0, 0, 0, 0}
	first, second := []byte{0, 2, 4, 2, 0, 2}, []byte{0, 2, 4, 2, 2, 4}
	many := make([]byte, 100000)
	for i, c := range []struct {
		b    []byte
		want api.Errno
	}{
		{nil, api.ErrShort},
		{[]byte{0}, api.ErrShort},
		{[]byte{0, 0}, api.OK},
		{[]byte{0, 0, 0}, api.ErrForm},
		{[]byte{0, 0, 128}, api.ErrForm},

		// The number of events.
		{[]byte{128}, api.ErrShort},
		{[]byte{128, 0}, api.ErrForm},
		{[]byte{1}, api.ErrShort},
		{[]byte{136, 39}, api.ErrShort},                                     // 5000
		{[]byte{137, 39}, api.ErrLimit},                                     // 5001
		{join([]byte{137, 39}, many), api.ErrLimit},                         // although all events follow
		{[]byte{137, 39, 128, 0}, api.ErrLimit},                             // immediately
		{[]byte{255, 255, 255, 255, 255, 255, 255, 255, 127}, api.ErrLimit}, // 2^63 - 1
		{[]byte{255, 255, 255, 255, 255, 255, 255, 255, 255, 1}, api.ErrLimit},
		{[]byte{128, 128, 128, 128, 128, 128, 128, 128, 128, 1}, api.ErrLimit}, // 2^63
		{[]byte{255, 255, 255, 255, 255, 255, 255, 255, 255, 2}, api.ErrForm},

		// Events.
		{join([]byte{1}, event), api.ErrShort},
		{join([]byte{1}, event, []byte{0}), api.OK},
		{join([]byte{1}, event[:7]), api.ErrShort},
		{join([]byte{1}, event[:7], []byte{129, 0}, []byte{0}), api.ErrForm},
		{join([]byte{2}, event, event, []byte{0}), api.OK},
		{join([]byte{2}, event, []byte{0}), api.ErrShort},
		{join([]byte{2}, []byte{128, 0}, event, event), api.ErrForm},
		{join([]byte{1}, event, event), api.ErrRange}, // two answers, the first of which is 0
		{join([]byte{1}, event, []byte{0}, event), api.ErrForm},

		// The number of answers.
		{[]byte{0, 129, 0}, api.ErrForm},
		{[]byte{0, 1}, api.ErrShort},
		{[]byte{0, 144, 78}, api.ErrShort},              // 10000
		{[]byte{0, 145, 78}, api.ErrLimit},              // 10001
		{join([]byte{0, 145, 78}, many), api.ErrLimit},  // although all answers follow
		{join([]byte{0, 145, 78}, first), api.ErrLimit}, // immediately
		{join([]byte{1}, event, []byte{145, 78}), api.ErrLimit},
		{[]byte{0, 255, 255, 255, 255, 255, 255, 255, 255, 255, 1}, api.ErrLimit},
		{[]byte{0, 137, 39}, api.ErrShort}, // more than there may be events

		// Answers.
		{join([]byte{0, 1}, first), api.OK},
		{join([]byte{0, 1}, first[:5]), api.ErrShort},
		{join([]byte{0, 1}, first, []byte{0}), api.ErrForm},
		{join([]byte{0, 2}, first, second), api.OK},
		{join([]byte{0, 2}, second, first), api.ErrOrder},
		{join([]byte{0, 2}, first, first), api.ErrOrder},
		{join([]byte{0, 2}, first), api.ErrShort},
		{join([]byte{0, 3}, first, second, first), api.ErrOrder},
		{join([]byte{0, 3}, first, first, second), api.ErrOrder},

		// N.
		{join([]byte{0, 1}, first[:5], []byte{0}), api.ErrRange},
		{join([]byte{0, 1}, first[:5], []byte{1}), api.ErrRange},
		{join([]byte{0, 1}, first[:5], []byte{255, 255, 255, 255, 255, 255, 255, 255, 255, 1}), api.ErrRange}, // the least int
		{join([]byte{0, 1}, first[:5], []byte{254, 255, 255, 255, 255, 255, 255, 255, 255, 1}), api.OK},       // the greatest
		{join([]byte{0, 2}, first, second[:5], []byte{0}), api.ErrRange},

		// Which error comes first.
		{join([]byte{0, 2}, second, first[:5], []byte{0}), api.ErrOrder},
		{join([]byte{0, 2}, second[:5], []byte{0}, first), api.ErrRange},
		{join([]byte{0, 2}, second, first[:5]), api.ErrShort},
		{join([]byte{0, 2}, second, first[:5], []byte{128}), api.ErrShort},
		{join([]byte{0, 2}, second, first[:5], []byte{128, 0}), api.ErrForm},
		{join([]byte{0, 2}, second, []byte{0, 2}, []byte{128, 0}), api.ErrForm},
		{join([]byte{0, 2}, second[:5], []byte{0}), api.ErrRange},
		{join([]byte{0, 3}, second, first), api.ErrOrder},
		{join([]byte{0, 2}, second, first, []byte{0}), api.ErrOrder},
		{join([]byte{0, 1}, first[:5], []byte{0}, []byte{0}), api.ErrRange},
		{join([]byte{0, 3}, first, second[:5], []byte{0}, []byte{128, 0}), api.ErrRange},
		{join([]byte{0, 3}, first, first, []byte{128, 0}), api.ErrOrder},
	} {
		got, err := Decode(c.b)
		if err != c.want || err != api.OK && !same(got, api.Tape{}) {
			t.Errorf("case %d: %v, error %d, want %d", i, got, err, c.want)
		}
		checkDecode(t, c.b)
	}
}

// P11.5: every number of a question decides about the order.
func TestDecodeOrder(t *testing.T) {
	encode := func(questions ...api.Question) []byte {
		b := []byte{0, byte(len(questions))}
		for _, q := range questions {
			b = appendNumbers(b, append(questionNumbers(q), 1)...)
		}
		return b
	}
	for i, a := range row() {
		for k, b := range row() {
			want := api.OK
			if i >= k {
				want = api.ErrOrder
			}
			if got, err := Decode(encode(a, b)); err != want || (len(got.Answers) == 2) != (i < k) {
				t.Errorf("answers to %v and %v: %v, error %d, want %d", a, b, got, err, want)
			}
		}
	}
	if got, err := Decode(encode(row()...)); err != api.OK || len(got.Answers) != len(row()) {
		t.Errorf("answers to all questions: %v, error %d", got, err)
	}
}

// large returns a tape at the limits. Its answers are in decreasing order, behind as many that do not count.
func large() api.Tape {
	var x api.Tape
	for i := range 5000 {
		x.Events = append(x.Events, api.Event{Kind: 1 + i%7, Node: i % 12, Arg: i, Msg: api.Msg{Index: -i}})
	}
	for i := range 5000 {
		x.Answers = append(x.Answers, api.Answer{Q: question(0, 0, 0, api.QDraw, i), N: 7 * i % 5})
	}
	for i := range 5000 {
		x.Answers = append(x.Answers, api.Answer{Q: question(0, 0, 0, api.QDraw, 5000-i), N: 1 + i%3})
	}
	return x
}

// P11.5, P11.7: tapes at the limits.
func TestLimits(t *testing.T) {
	checkTape(t, large(), []api.Question{draw(0), draw(1), draw(4999), draw(5000), draw(5001)})
	x := api.Tape{Events: large().Events}
	for i := range 10000 {
		x.Answers = append(x.Answers, api.Answer{Q: draw(i), N: 1 + i})
	}
	b := Encode(x)
	if got, err := Decode(b); !same(got, x) || err != api.OK || Parts(x) != 15000 {
		t.Errorf("%d parts, error %d", Parts(x), err)
	}
	if _, err := Decode(append(b, 0)); err != api.ErrForm {
		t.Errorf("with another byte: error %d", err)
	}
	if _, err := Decode(b[:len(b)-1]); err != api.ErrShort {
		t.Errorf("without the last byte: error %d", err)
	}
	all := make([]int, 15000)
	for i := range all {
		all[i] = i
	}
	if got := Without(x, all); !same(got, api.Tape{}) {
		t.Errorf("%d parts are left of all", Parts(got))
	}
	if got := Without(x, all[1:14999]); !same(got, api.Tape{Events: x.Events[:1], Answers: x.Answers[9999:]}) {
		t.Errorf("%v is left of the first and the last part", got)
	}
}
