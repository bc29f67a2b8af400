package tape

import (
	"math"
	"math/rand"
	"slices"
	"testing"

	"simproof/api"
)

// smallTapes returns all tapes of at most two of two events and of at most some number of answers of -1, 0, 1 or 2 to three questions.
func smallTapes(most int) []api.Tape {
	lists := [][]api.Answer{nil}
	for start := 0; most > 0; most-- {
		end := len(lists)
		for _, l := range lists[start:end] {
			for i := range 12 {
				a := api.Answer{Q: draw(i % 3), N: i/3 - 1}
				lists = append(lists, append(slices.Clone(l), a))
			}
		}
		start = end
	}
	one, two := starts(2)[0], starts(2)[1]
	var tapes []api.Tape
	for _, events := range [][]api.Event{nil, {one}, {two}, {one, one}, {one, two}, {two, one}} {
		for _, l := range lists {
			tapes = append(tapes, api.Tape{Events: events, Answers: l})
		}
	}
	return tapes
}

// draws returns the questions for the first draws.
func draws(n int) []api.Question {
	var l []api.Question
	for i := range n {
		l = append(l, draw(i))
	}
	return l
}

// P11.1 to P11.8: all small tapes, with all answers, and without all sets of parts.
func TestSmallTapes(t *testing.T) {
	questions := draws(4)
	for _, x := range smallTapes(3) {
		checkTape(t, x, questions)
		for i := range 16 {
			checkWith(t, x, draw(i%4), i/4-1, questions)
		}
		for set := range 1 << (Parts(x) + 1) {
			var parts []int
			for p := range Parts(x) + 1 {
				if set>>p&1 == 1 {
					parts = append([]int{p}, parts...)
				}
			}
			checkWithout(t, x, parts)
		}
	}
}

// P11.1, P11.6, P11.7: all pairs of small tapes are equal, and have equal normal forms and encodings, if the definition says so.
func TestPairsOfSmallTapes(t *testing.T) {
	tapes := smallTapes(2)
	equal := 0
	for i, a := range tapes {
		for _, b := range tapes[i%7:] {
			want := definedEqual(a, b)
			if Equal(a, b) != want || Equal(b, a) != want {
				t.Fatalf("%v and %v: %t and %t, want %t", a, b, Equal(a, b), Equal(b, a), want)
			}
			if want {
				equal++
			}
			if (len(a.Answers) < 2 || len(b.Answers) < 2) && (same(Normal(a), Normal(b)) != want || slices.Equal(Encode(a), Encode(b)) != want) {
				t.Fatalf("%v and %v have the normal forms %v and %v", a, b, Normal(a), Normal(b))
			}
		}
	}
	if equal < 1000 {
		t.Errorf("only %d pairs are equal", equal)
	}
}

// number returns a random number, often an extreme one.
func number(r *rand.Rand) int {
	switch r.Intn(6) {
	case 0:
		return []int{math.MinInt, math.MinInt + 1, -1, 1, 63, 64, math.MaxInt - 1, math.MaxInt}[r.Intn(8)]
	case 1:
		return int(r.Uint64() >> r.Intn(64))
	}
	return r.Intn(3)
}

// numbers returns random numbers.
func numbers(r *rand.Rand, count int) []int {
	l := make([]int, count)
	for i := range l {
		l[i] = number(r)
	}
	return l
}

// someTape returns a random tape, and some questions, which include those of its answers.
func someTape(r *rand.Rand) (api.Tape, []api.Question) {
	var x api.Tape
	for range r.Intn(6) {
		x.Events = append(x.Events, eventOf(numbers(r, 8)))
	}
	base := numbers(r, 5)
	var questions []api.Question
	for range 2 + r.Intn(8) {
		l := slices.Clone(base)
		for range r.Intn(3) {
			l[r.Intn(5)] = number(r)
		}
		questions = append(questions, questionOf(l))
	}
	for range r.Intn(15) {
		x.Answers = append(x.Answers, api.Answer{Q: questions[r.Intn(len(questions))], N: number(r)})
	}
	return x, questions
}

// P11.1 to P11.8: random tapes with any numbers.
func TestRandomTapes(t *testing.T) {
	r := rand.New(rand.NewSource(1))
	for range 10000 {
		x, questions := someTape(r)
		checkTape(t, x, questions)
		checkWith(t, x, questions[r.Intn(len(questions))], number(r), questions)
		var parts []int
		for range r.Intn(8) {
			parts = append(parts, r.Intn(Parts(x)+3)-1)
		}
		checkWithout(t, x, append(parts, number(r)))
		y, _ := someTape(r)
		y.Events = x.Events
		if Equal(x, y) != definedEqual(x, y) {
			t.Fatalf("%v and %v: %t", x, y, Equal(x, y))
		}
	}
}

// P11.3: the tape of a run is the normal tape of its events and answers, in which other fields play no part.
func TestRandomRuns(t *testing.T) {
	r := rand.New(rand.NewSource(2))
	for range 5000 {
		x, _ := someTape(r)
		run := make([]api.Step, len(x.Events))
		for i, e := range x.Events {
			run[i] = api.Step{Event: e, Observable: r.Intn(2) == 0, Sent: make([]api.Msg, r.Intn(2))}
		}
		if len(run) == 0 {
			x.Answers = nil
		}
		// Each answer goes to the step of the last one or to a later one.
		at := 0
		for _, a := range x.Answers {
			at += r.Intn(len(run) - at)
			run[at].Asks = append(run[at].Asks, api.Ask{Q: a.Q, Arity: number(r), N: a.N})
		}
		if got := Of(run); !same(got, definedNormal(x)) {
			t.Fatalf("the tape of %v is %v", run, got)
		}
	}
}

// P11.8: the answer that is set last counts, and those to different questions can be set in any order.
func TestWithTwice(t *testing.T) {
	r := rand.New(rand.NewSource(3))
	for range 10000 {
		x, questions := someTape(r)
		p, q := questions[r.Intn(len(questions))], questions[r.Intn(len(questions))]
		n, m := number(r), number(r)
		one := With(With(x, p, n), q, m)
		other := With(With(x, q, m), p, n)
		if p == q {
			other = With(x, q, m)
		}
		if !same(one, other) || !Equal(one, other) || Get(one, q) != max(m, 0) {
			t.Fatalf("%v with %d to %v and %d to %v is %v or %v", x, n, p, m, q, one, other)
		}
	}
}

// P11.8: nothing is left without all parts, in whatever order they are given.
func TestWithoutAll(t *testing.T) {
	r := rand.New(rand.NewSource(4))
	for range 2000 {
		x, _ := someTape(r)
		if got := Without(x, r.Perm(Parts(x))); len(got.Events) > 0 || len(got.Answers) > 0 {
			t.Fatalf("%v without all parts is %v", x, got)
		}
	}
}

// P11.5, P11.7: all continuations of some starts by bytes that decide about varints and about the order.
func TestDecodeFollowsTheDefinition(t *testing.T) {
	decoded := 0
	var extend func(b []byte, room int)
	extend = func(b []byte, room int) {
		if checkDecode(t, b) {
			decoded++
		}
		if room == 0 {
			return
		}
		for _, c := range []byte{0, 1, 2, 3, 127, 128, 129, 255} {
			extend(append(slices.Clone(b), c), room-1)
		}
	}
	for _, start := range [][]byte{
		nil, {0}, {0, 1, 2}, {1, 0, 0, 0, 0}, {1, 2, 0, 0, 0, 0, 0, 0, 0}, {0, 1, 0, 0}, {0, 2, 0, 0, 0, 0, 2, 2}, {0, 2, 0, 0, 0, 0, 2, 2, 0, 0, 0}, {0, 2, 0, 2, 0, 2, 0, 2, 0, 2},
	} {
		extend(start, 4)
	}
	if decoded < 200 {
		t.Errorf("only %d are encodings", decoded)
	}
}

// P11.5, P11.7: encodings with a few changes.
func TestChangedEncodings(t *testing.T) {
	r := rand.New(rand.NewSource(5))
	decoded := 0
	for range 60000 {
		x, _ := someTape(r)
		b := Encode(x)
		for range 1 + r.Intn(2) {
			i := r.Intn(len(b))
			switch r.Intn(4) {
			case 0:
				b[i] ^= 1 << r.Intn(8)
			case 1:
				b = slices.Insert(b, i, byte(r.Intn(4)*64))
			case 2:
				b = append(b, byte(r.Intn(3)))
			case 3:
				b[i] = byte(r.Intn(4))
			}
		}
		if checkDecode(t, b) {
			decoded++
		}
	}
	if decoded < 3000 || decoded > 57000 {
		t.Errorf("%d are encodings", decoded)
	}
}

// P11.5: answers that are out of order, repeated or not positive, with the events of a tape before them.
func TestAnswersThatAreNotNormal(t *testing.T) {
	r := rand.New(rand.NewSource(6))
	errors := map[api.Errno]int{}
	for range 20000 {
		x, _ := someTape(r)
		if r.Intn(2) == 0 {
			x.Answers = Normal(x).Answers
		}
		b := Encode(api.Tape{Events: x.Events})
		b[len(b)-1] = byte(len(x.Answers))
		for _, a := range x.Answers {
			b = appendNumbers(b, answerNumbers(a)...)
		}
		checkDecode(t, b)
		_, err := Decode(b)
		errors[err]++
	}
	if errors[api.OK] < 1000 || errors[api.ErrOrder] < 1000 || errors[api.ErrRange] < 1000 {
		t.Errorf("the errors are %v", errors)
	}
}

// P11.5: an encoding that ends too early.
func TestPrefixes(t *testing.T) {
	r := rand.New(rand.NewSource(7))
	for range 1000 {
		x, _ := someTape(r)
		b := Encode(x)
		for n := range b {
			if got, err := Decode(b[:n]); err != api.ErrShort || !same(got, api.Tape{}) {
				t.Fatalf("%d of %d bytes are decoded as %v, error %d", n, len(b), got, err)
			}
		}
	}
}
