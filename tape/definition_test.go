package tape

import (
	"encoding/binary"
	"slices"
	"testing"

	"simproof/api"
)

// The numbers of events and answers, in the order of their encodings.

func eventNumbers(e api.Event) []int {
	m := e.Msg
	return []int{e.Kind, e.Node, e.Arg, m.Cause.Node, m.Cause.Handler, m.Cause.Count, m.Index, m.Copy}
}

func questionNumbers(q api.Question) []int {
	return []int{q.Cause.Node, q.Cause.Handler, q.Cause.Count, q.Kind, q.Index}
}

func answerNumbers(a api.Answer) []int { return append(questionNumbers(a.Q), a.N) }

// The values with such numbers.

func eventOf(l []int) api.Event {
	cause := api.Cause{Node: l[3], Handler: l[4], Count: l[5]}
	return api.Event{Kind: l[0], Node: l[1], Arg: l[2], Msg: api.Msg{Cause: cause, Index: l[6], Copy: l[7]}}
}

func questionOf(l []int) api.Question {
	return api.Question{Cause: api.Cause{Node: l[0], Handler: l[1], Count: l[2]}, Kind: l[3], Index: l[4]}
}

func answerOf(l []int) api.Answer { return api.Answer{Q: questionOf(l), N: l[5]} }

// definedGet returns the answer of a tape: the last one, unless it is negative.
func definedGet(t api.Tape, q api.Question) int {
	n := 0
	for _, a := range t.Answers {
		if a.Q == q {
			n = a.N
		}
	}
	if n < 0 {
		return 0
	}
	return n
}

// definedNormal sorts the questions and keeps those with a positive answer.
func definedNormal(t api.Tape) api.Tape {
	var numbers [][]int
	for _, a := range t.Answers {
		numbers = append(numbers, questionNumbers(a.Q))
	}
	slices.SortFunc(numbers, slices.Compare[[]int])
	normal := api.Tape{Events: append([]api.Event{}, t.Events...)}
	for _, l := range slices.CompactFunc(numbers, slices.Equal[[]int]) {
		if n := definedGet(t, questionOf(l)); n > 0 {
			normal.Answers = append(normal.Answers, api.Answer{Q: questionOf(l), N: n})
		}
	}
	return normal
}

// definedEqual asks both tapes every question that one of them mentions; the answer to all others is 0.
func definedEqual(a, b api.Tape) bool {
	same := len(a.Events) == len(b.Events)
	for i := 0; same && i < len(a.Events); i++ {
		same = slices.Equal(eventNumbers(a.Events[i]), eventNumbers(b.Events[i]))
	}
	for _, l := range [][]api.Answer{a.Answers, b.Answers} {
		for _, x := range l {
			same = same && definedGet(a, x.Q) == definedGet(b, x.Q)
		}
	}
	return same
}

// definedWithout numbers the parts of the normal tape one after another.
func definedWithout(t api.Tape, parts []int) api.Tape {
	var left api.Tape
	normal, number := definedNormal(t), 0
	for _, e := range normal.Events {
		if !slices.Contains(parts, number) {
			left.Events = append(left.Events, e)
		}
		number++
	}
	for _, a := range normal.Answers {
		if !slices.Contains(parts, number) {
			left.Answers = append(left.Answers, a)
		}
		number++
	}
	return left
}

// definedEncode writes the numbers of the normal tape with another implementation of varints and zigzag forms.
func definedEncode(t api.Tape) []byte {
	normal := definedNormal(t)
	b := binary.AppendUvarint(nil, uint64(len(normal.Events)))
	for _, e := range normal.Events {
		b = appendNumbers(b, eventNumbers(e)...)
	}
	b = binary.AppendUvarint(b, uint64(len(normal.Answers)))
	for _, a := range normal.Answers {
		b = appendNumbers(b, answerNumbers(a)...)
	}
	return b
}

// appendNumbers appends signed numbers.
func appendNumbers(b []byte, numbers ...int) []byte {
	for _, n := range numbers {
		b = binary.AppendVarint(b, int64(n))
	}
	return b
}

// varint returns the unsigned number at the beginning of b and the bytes after it.
func varint(b []byte) (uint64, []byte, api.Errno) {
	n, size := binary.Uvarint(b)
	switch {
	case size == 0 && len(b) < 10:
		return 0, nil, api.ErrShort
	case size <= 0 || size > 1 && b[size-1] == 0:
		return 0, nil, api.ErrForm
	}
	return n, b[size:], api.OK
}

// signed returns the signed numbers at the beginning of b and the bytes after them.
func signed(b []byte, count int) ([]int, []byte, api.Errno) {
	var numbers []int
	for range count {
		n, rest, err := varint(b)
		if err != api.OK {
			return nil, nil, err
		}
		b = rest
		numbers = append(numbers, int(n>>1)^-int(n&1))
	}
	return numbers, b, api.OK
}

// definedDecode reads an encoding and returns the first error that occurs.
func definedDecode(b []byte) (api.Tape, api.Errno) {
	var t api.Tape
	count, b, err := varint(b)
	if err == api.OK && count > 5000 {
		err = api.ErrLimit
	}
	for i := 0; err == api.OK && i < int(count); i++ {
		var numbers []int
		if numbers, b, err = signed(b, 8); err == api.OK {
			t.Events = append(t.Events, eventOf(numbers))
		}
	}
	if err != api.OK {
		return api.Tape{}, err
	}
	count, b, err = varint(b)
	if err == api.OK && count > 10000 {
		err = api.ErrLimit
	}
	var last []int
	for i := 0; err == api.OK && i < int(count); i++ {
		var numbers []int
		if numbers, b, err = signed(b, 6); err != api.OK {
			break
		}
		if i > 0 && slices.Compare(last, numbers[:5]) >= 0 {
			err = api.ErrOrder
		} else if numbers[5] <= 0 {
			err = api.ErrRange
		}
		last = numbers[:5]
		t.Answers = append(t.Answers, answerOf(numbers))
	}
	if err == api.OK && len(b) > 0 {
		err = api.ErrForm
	}
	if err != api.OK {
		return api.Tape{}, err
	}
	return t, api.OK
}

// same reports whether two tapes consist of the same events and answers.
func same(a, b api.Tape) bool {
	return slices.Equal(a.Events, b.Events) && slices.Equal(a.Answers, b.Answers)
}

// checkTape compares a tape's normal form, parts and encoding, and its answers to some questions, with the definitions.
func checkTape(t *testing.T, x api.Tape, questions []api.Question) {
	t.Helper()
	want := definedNormal(x)
	normal := Normal(x)
	if !same(normal, want) || !same(Normal(normal), want) {
		t.Fatalf("the normal form of %v is %v, and its normal form is %v", x, normal, Normal(normal))
	}
	if !Equal(x, normal) || !Equal(normal, x) || !Equal(x, x) {
		t.Fatalf("%v is not equal to its normal form %v", x, normal)
	}
	if got := Parts(x); got != len(want.Events)+len(want.Answers) || Parts(normal) != got {
		t.Fatalf("%v has %d parts, and its normal form %v has %d", x, got, normal, Parts(normal))
	}
	for _, q := range questions {
		if got := Get(x, q); got != definedGet(x, q) || Get(normal, q) != got {
			t.Fatalf("%v answers %v with %d, and its normal form with %d", x, q, got, Get(normal, q))
		}
	}
	b := Encode(x)
	if !slices.Equal(b, definedEncode(x)) || !slices.Equal(b, Encode(normal)) {
		t.Fatalf("the encoding of %v is %d, and that of its normal form is %d", x, b, Encode(normal))
	}
	if back, err := Decode(b); !same(back, want) || err != api.OK {
		t.Fatalf("%v is decoded as %v, error %d", x, back, err)
	}
}

// checkWith compares a tape with another answer to a question with the definition.
func checkWith(t *testing.T, x api.Tape, q api.Question, n int, questions []api.Question) {
	t.Helper()
	got := With(x, q, n)
	changed := api.Tape{Events: x.Events, Answers: append(slices.Clone(x.Answers), api.Answer{Q: q, N: n})}
	if !same(got, definedNormal(changed)) || Get(got, q) != max(n, 0) {
		t.Fatalf("%v with the answer %d to %v is %v", x, n, q, got)
	}
	for _, other := range questions {
		if other != q && Get(got, other) != Get(x, other) {
			t.Fatalf("%v with the answer %d to %v answers %v with %d", x, n, q, other, Get(got, other))
		}
	}
}

// checkWithout compares a tape without some parts with the definition, and with the tape from which they are left out one by one.
func checkWithout(t *testing.T, x api.Tape, parts []int) {
	t.Helper()
	got := Without(x, parts)
	if !same(got, definedWithout(x, parts)) {
		t.Fatalf("%v without %d is %v", x, parts, got)
	}
	order := slices.Clone(parts)
	slices.Sort(order)
	one := Normal(x)
	for _, p := range slices.Backward(slices.Compact(order)) {
		one = Without(one, []int{p})
	}
	if !same(one, got) {
		t.Fatalf("%v without %d is %v, and one by one %v", x, parts, got, one)
	}
}

// checkDecode compares what bytes are decoded to with the definition. It reports whether they are an encoding.
func checkDecode(t *testing.T, b []byte) bool {
	t.Helper()
	want, wantErr := definedDecode(b)
	got, err := Decode(b)
	if !same(got, want) || err != wantErr {
		t.Fatalf("%d is decoded as %v, error %d, want %v, error %d", b, got, err, want, wantErr)
	}
	if err == api.OK && (!slices.Equal(Encode(got), b) || !same(Normal(got), got)) {
		t.Fatalf("%d is decoded as %v, whose encoding is %d", b, got, Encode(got))
	}
	return err == api.OK
}
