package wire

import (
	"math"
	"slices"
	"testing"

	"simproof/api"
)

// The greatest number has nine full groups and one more bit.
var greatest = []byte{255, 255, 255, 255, 255, 255, 255, 255, 255, 1}

// written returns what a fresh Out holds after some calls.
func written(write func(o *Out)) []byte {
	var o Out
	write(&o)
	return o.Done()
}

// repeat returns n bytes b, followed by others.
func repeat(n int, b byte, others ...byte) []byte {
	return append(slices.Repeat([]byte{b}, n), others...)
}

// P2.1: unsigned numbers are varints.
func TestOutUint(t *testing.T) {
	for _, c := range []struct {
		n    uint64
		want []byte
	}{
		{0, []byte{0}},
		{1, []byte{1}},
		{127, []byte{127}},
		{128, []byte{128, 1}},
		{255, []byte{255, 1}},
		{300, []byte{172, 2}},
		{1<<14 - 1, []byte{255, 127}},
		{1 << 14, []byte{128, 128, 1}},
		{1 << 32, []byte{128, 128, 128, 128, 16}},
		{1<<63 - 1, repeat(8, 255, 127)},
		{1 << 63, repeat(9, 128, 1)},
		{math.MaxUint64 - 1, []byte{254, 255, 255, 255, 255, 255, 255, 255, 255, 1}},
		{math.MaxUint64, greatest},
	} {
		if got := written(func(o *Out) { o.Uint(c.n) }); !slices.Equal(got, c.want) {
			t.Errorf("Uint(%d) appends %d, want %d", c.n, got, c.want)
		}
	}
}

// signed are ints with their encodings: the examples, the ends of the range, and those at which varints become longer.
var signed = []struct {
	n    int
	code []byte
}{
	{0, []byte{0}},
	{-1, []byte{1}},
	{1, []byte{2}},
	{-2, []byte{3}},
	{63, []byte{126}},
	{-64, []byte{127}},
	{64, []byte{128, 1}},
	{-65, []byte{129, 1}},
	{150, []byte{172, 2}},
	{api.MaxValue, []byte{254, 255, 255, 255, 15}},
	{-api.MaxValue, []byte{253, 255, 255, 255, 15}},
	{math.MaxInt - 1, []byte{252, 255, 255, 255, 255, 255, 255, 255, 255, 1}},
	{math.MaxInt, []byte{254, 255, 255, 255, 255, 255, 255, 255, 255, 1}},
	{math.MinInt + 1, []byte{253, 255, 255, 255, 255, 255, 255, 255, 255, 1}},
	{math.MinInt, greatest},
}

// P2.1: signed numbers are varints of their zigzag forms.
func TestOutInt(t *testing.T) {
	for _, c := range signed {
		if got := written(func(o *Out) { o.Int(c.n) }); !slices.Equal(got, c.code) {
			t.Errorf("Int(%d) appends %d, want %d", c.n, got, c.code)
		}
	}
}

// P2.1: byte slices follow their length.
func TestOutBytes(t *testing.T) {
	for _, c := range []struct{ b, want []byte }{
		{nil, []byte{0}},
		{[]byte{}, []byte{0}},
		{[]byte("ab"), []byte{2, 97, 98}},
		{[]byte{0, 128, 255}, []byte{3, 0, 128, 255}},
		{repeat(127, 9), append([]byte{127}, repeat(127, 9)...)},
		{repeat(128, 9), append([]byte{128, 1}, repeat(128, 9)...)},
		{repeat(300, 9), append([]byte{172, 2}, repeat(300, 9)...)},
	} {
		if got := written(func(o *Out) { o.Bytes(c.b) }); !slices.Equal(got, c.want) {
			t.Errorf("Bytes(%d) appends %d, want %d", c.b, got, c.want)
		}
	}
}

// P2.1: the elements of a list follow its length.
func TestOutInts(t *testing.T) {
	for _, c := range []struct {
		l    []int
		want []byte
	}{
		{nil, []byte{0}},
		{[]int{}, []byte{0}},
		{[]int{0}, []byte{1, 0}},
		{[]int{3, -3}, []byte{2, 6, 5}},
		{[]int{64, -65, 0}, []byte{3, 128, 1, 129, 1, 0}},
		{[]int{math.MinInt}, append([]byte{1}, greatest...)},
		{slices.Repeat([]int{-1}, 128), append([]byte{128, 1}, repeat(128, 1)...)},
	} {
		if got := written(func(o *Out) { o.Ints(c.l) }); !slices.Equal(got, c.want) {
			t.Errorf("Ints(%d) appends %d, want %d", c.l, got, c.want)
		}
	}
}

// P2.1: the zero value is ready for use, and values can be appended after Done.
func TestOutGoesOnAfterDone(t *testing.T) {
	var o Out
	if got := o.Done(); len(got) != 0 {
		t.Errorf("nothing is encoded as %d", got)
	}
	want := []byte{}
	for _, c := range []struct {
		write func()
		code  []byte
	}{
		{func() { o.Uint(300) }, []byte{172, 2}},
		{func() { o.Int(-1) }, []byte{1}},
		{func() { o.Bytes([]byte("ab")) }, []byte{2, 97, 98}},
		{func() { o.Ints([]int{3, -3}) }, []byte{2, 6, 5}},
		{func() { o.Bytes(nil) }, []byte{0}},
		{func() { o.Ints(nil) }, []byte{0}},
		{func() {}, nil},
	} {
		c.write()
		want = append(want, c.code...)
		if got := o.Done(); !slices.Equal(got, want) {
			t.Errorf("after %d more: %d, want %d", c.code, got, want)
		}
	}
}

// P2.1: Done returns a copy: neither side sees what the other one does.
func TestDoneReturnsACopy(t *testing.T) {
	var o Out
	for n := range uint64(40) {
		o.Uint(n)
		got := o.Done()
		want := slices.Clone(got)
		o.Uint(99)
		o.Bytes([]byte{98, 97})
		if !slices.Equal(got, want) {
			t.Fatalf("the copy of %d bytes became %d", len(want), got)
		}
		got = o.Done()
		want = slices.Clone(got)
		// A write within the copy, and one to its spare capacity.
		got[0] ^= 255
		_ = append(got, 55)
		o.Uint(n)
		if now := o.Done(); !slices.Equal(now[:len(want)], want) || now[len(want)] != byte(n) {
			t.Fatalf("after writes to the copy: %d, want %d and %d", now, want, n)
		}
	}
}

// P2.2: a new reader has no error, and is at the beginning.
func TestNewIn(t *testing.T) {
	for _, b := range [][]byte{nil, {}, {7}, {128}, {7, 8}} {
		in := NewIn(b)
		if in.Err() != api.OK {
			t.Errorf("a new reader of %d has the error %d", b, in.Err())
		}
		if len(b) > 0 && b[0] < 128 && in.Uint() != uint64(b[0]) {
			t.Errorf("a new reader of %d does not begin with %d", b, b[0])
		}
	}
}

// P2.2: Fail records the first error that is not OK, whatever its value is.
func TestFailRecordsTheFirstError(t *testing.T) {
	for _, e := range []api.Errno{api.ErrArg, api.ErrStatus, 1000, -1, math.MinInt} {
		in := NewIn([]byte{4})
		in.Fail(api.OK)
		if in.Err() != api.OK {
			t.Fatalf("Fail(OK) records %d", in.Err())
		}
		in.Fail(e)
		if in.Err() != e || in.End() != e {
			t.Errorf("after Fail(%d): Err %d, End %d", e, in.Err(), in.End())
		}
		in.Fail(api.ErrDup)
		in.Fail(api.OK)
		if in.Err() != e || in.End() != e {
			t.Errorf("after Fail(%d) and others: Err %d, End %d", e, in.Err(), in.End())
		}
	}
	in := NewIn([]byte{4})
	in.Fail(api.OK)
	if in.Uint() != 4 || in.Err() != api.OK {
		t.Error("Fail(OK) keeps the reader from reading")
	}
	in.Uint()
	in.Fail(api.ErrDup)
	if in.Err() != api.ErrShort {
		t.Errorf("Fail replaces ErrShort by %d", in.Err())
	}
}

// P2.2: End tells whether bytes are left, but records nothing.
func TestEndRecordsNothing(t *testing.T) {
	in := NewIn([]byte{1, 2})
	for left := 2; left > 0; left-- {
		if in.End() != api.ErrForm || in.End() != api.ErrForm {
			t.Errorf("End with %d unread bytes: %d", left, in.End())
		}
		if in.Err() != api.OK {
			t.Errorf("End records %d", in.Err())
		}
		if got := in.Uint(); got != uint64(3-left) {
			t.Errorf("after End Uint returns %d, want %d", got, 3-left)
		}
	}
	if in.End() != api.OK || in.Err() != api.OK {
		t.Errorf("at the end: End %d, Err %d", in.End(), in.Err())
	}
	if in.Uint() != 0 || in.Err() != api.ErrShort || in.End() != api.ErrShort {
		t.Errorf("beyond the end: Err %d, End %d", in.Err(), in.End())
	}
	if empty := NewIn(nil); empty.End() != api.OK {
		t.Errorf("End of nothing: %d", empty.End())
	}
}

// P2.3: what Uint reads, or the error that it records.
func TestUint(t *testing.T) {
	for _, c := range []struct {
		b    []byte
		want uint64
		err  api.Errno
	}{
		{[]byte{0}, 0, api.OK},
		{[]byte{127}, 127, api.OK},
		{[]byte{128, 1}, 128, api.OK},
		{[]byte{172, 2}, 300, api.OK},
		{repeat(9, 128, 1), 1 << 63, api.OK},
		{repeat(8, 255, 127), 1<<63 - 1, api.OK},
		{greatest, math.MaxUint64, api.OK},

		{nil, 0, api.ErrShort},
		{[]byte{128}, 0, api.ErrShort},
		{[]byte{255, 128}, 0, api.ErrShort},
		{repeat(9, 128), 0, api.ErrShort},
		{repeat(9, 255), 0, api.ErrShort},

		// A superfluous byte 0, with and without bytes after it.
		{[]byte{128, 0}, 0, api.ErrForm},
		{[]byte{129, 0}, 0, api.ErrForm},
		{[]byte{128, 0, 1}, 0, api.ErrForm},
		{[]byte{255, 255, 0}, 0, api.ErrForm},
		{repeat(8, 255, 0), 0, api.ErrForm},
		{repeat(9, 255, 0), 0, api.ErrForm},

		// A tenth byte beyond 64 bits.
		{repeat(9, 128, 2), 0, api.ErrForm},
		{repeat(9, 255, 3), 0, api.ErrForm},
		{repeat(9, 128, 64), 0, api.ErrForm},
		{repeat(9, 255, 127), 0, api.ErrForm},

		// Ten bytes or more without an end, and a varint of more than ten bytes.
		{repeat(10, 128), 0, api.ErrForm},
		{repeat(10, 255), 0, api.ErrForm},
		{repeat(9, 255, 129), 0, api.ErrForm},
		{repeat(11, 128), 0, api.ErrForm},
		{repeat(10, 128, 1), 0, api.ErrForm},
		{repeat(9, 128, 129, 1), 0, api.ErrForm},
		{repeat(9, 128, 129, 0), 0, api.ErrForm},
		{repeat(100, 200), 0, api.ErrForm},
		{repeat(100, 200, 1), 0, api.ErrForm},
	} {
		in := NewIn(c.b)
		if got := in.Uint(); got != c.want || in.Err() != c.err || in.End() != c.err {
			t.Errorf("Uint of %d: %d, Err %d, End %d, want %d, %d", c.b, got, in.Err(), in.End(), c.want, c.err)
		}
	}
}

// P2.3: a varint ends at its last byte, and the next read begins there.
func TestUintLeavesTheRest(t *testing.T) {
	in := NewIn(slices.Concat([]byte{0, 172, 2}, greatest, []byte{0, 0, 1, 128}))
	for i, want := range []uint64{0, 300, math.MaxUint64, 0, 0, 1} {
		if got := in.Uint(); got != want || in.Err() != api.OK {
			t.Errorf("number %d: %d, Err %d, want %d", i, got, in.Err(), want)
		}
	}
	if in.Uint() != 0 || in.Err() != api.ErrShort {
		t.Errorf("an unfinished number: Err %d", in.Err())
	}
}

// P2.4: Int reads the int with a zigzag form, and fails like Uint.
func TestInt(t *testing.T) {
	for _, c := range signed {
		in := NewIn(c.code)
		if got := in.Int(); got != c.n || in.End() != api.OK {
			t.Errorf("Int of %d: %d, End %d, want %d", c.code, got, in.End(), c.n)
		}
	}
	for _, c := range []struct {
		b   []byte
		err api.Errno
	}{
		{nil, api.ErrShort},
		{[]byte{129}, api.ErrShort},
		{repeat(9, 255), api.ErrShort},
		{[]byte{129, 0}, api.ErrForm},
		{repeat(9, 255, 2), api.ErrForm},
		{repeat(10, 255), api.ErrForm},
		{repeat(10, 255, 1), api.ErrForm},
	} {
		in := NewIn(c.b)
		if got := in.Int(); got != 0 || in.Err() != c.err {
			t.Errorf("Int of %d: %d, Err %d, want %d", c.b, got, in.Err(), c.err)
		}
	}
}

// badLengths are beginnings of byte slices and of lists alike: those whose length is not read or not allowed.
var badLengths = []struct {
	b    []byte
	most int
	err  api.Errno
}{
	{nil, 9, api.ErrShort},
	{nil, -1, api.ErrShort},
	{nil, 0, api.ErrShort},
	{[]byte{128}, 9, api.ErrShort},
	{[]byte{128}, -1, api.ErrShort},
	{[]byte{128, 0}, 9, api.ErrForm},
	{[]byte{130, 0}, -1, api.ErrForm},
	{repeat(9, 255, 2), math.MaxInt, api.ErrForm},
	{repeat(10, 255), 0, api.ErrForm},

	{[]byte{0}, -1, api.ErrLimit},
	{[]byte{0}, math.MinInt, api.ErrLimit},
	{[]byte{1, 2}, -1, api.ErrLimit},
	{[]byte{1, 2}, math.MinInt, api.ErrLimit},
	{[]byte{1, 2}, 0, api.ErrLimit},
	{[]byte{2, 2, 4}, 1, api.ErrLimit},
	{[]byte{128, 1}, 127, api.ErrLimit},
	// Too long and too short: the limit comes first. A length that is negative as an int is a large one.
	{[]byte{9, 2}, 8, api.ErrLimit},
	{[]byte{1}, 0, api.ErrLimit},
	{greatest, 9, api.ErrLimit},
	{greatest, -1, api.ErrLimit},
	{greatest, math.MaxInt, api.ErrLimit},
	{repeat(9, 128, 1), math.MaxInt, api.ErrLimit},

	// The length is allowed: nothing or too little is left, whatever memory the length asks for.
	{[]byte{1}, 1, api.ErrShort},
	{[]byte{3, 2, 4}, 3, api.ErrShort},
	{[]byte{9, 2}, 9, api.ErrShort},
	{[]byte{128, 1}, 128, api.ErrShort},
	{[]byte{172, 2, 6}, math.MaxInt, api.ErrShort},
	{repeat(8, 255, 127), math.MaxInt, api.ErrShort},
	{repeat(8, 255, 127, 6, 8), math.MaxInt, api.ErrShort},
}

// P2.4: Bytes reads a byte slice.
func TestBytes(t *testing.T) {
	for _, c := range []struct {
		b    []byte
		most int
		want []byte
	}{
		{[]byte{0}, 0, nil},
		{[]byte{0}, 5, nil},
		{[]byte{1, 0}, 1, []byte{0}},
		{[]byte{2, 97, 98}, 2, []byte("ab")},
		{[]byte{2, 97, 98}, math.MaxInt, []byte("ab")},
		{[]byte{3, 0, 128, 255}, 3, []byte{0, 128, 255}},
		{append([]byte{172, 2}, repeat(300, 200)...), 300, repeat(300, 200)},
	} {
		in := NewIn(append(slices.Clone(c.b), 0, 2))
		if got := in.Bytes(c.most); !slices.Equal(got, c.want) || in.Err() != api.OK {
			t.Errorf("Bytes(%d) of %d: %d, Err %d, want %d", c.most, c.b, got, in.Err(), c.want)
		}
		if in.Uint() != 0 || in.Uint() != 2 || in.End() != api.OK {
			t.Errorf("Bytes(%d) of %d does not end where its bytes end", c.most, c.b)
		}
	}
	for _, c := range badLengths {
		in := NewIn(c.b)
		if got := in.Bytes(c.most); len(got) != 0 || in.Err() != c.err {
			t.Errorf("Bytes(%d) of %d: %d, Err %d, want %d", c.most, c.b, got, in.Err(), c.err)
		}
	}
}

// P2.4: Ints reads a list.
func TestInts(t *testing.T) {
	for _, c := range []struct {
		b    []byte
		most int
		want []int
	}{
		{[]byte{0}, 0, nil},
		{[]byte{0}, 5, nil},
		{[]byte{1, 0}, 1, []int{0}},
		{[]byte{2, 6, 5}, 2, []int{3, -3}},
		{[]byte{2, 6, 5}, math.MaxInt, []int{3, -3}},
		{[]byte{3, 128, 1, 129, 1, 0}, 3, []int{64, -65, 0}},
		{slices.Concat([]byte{2}, greatest, []byte{1}), 2, []int{math.MinInt, -1}},
		{append([]byte{172, 2}, repeat(300, 4)...), 300, slices.Repeat([]int{2}, 300)},
	} {
		in := NewIn(append(slices.Clone(c.b), 0, 2))
		if got := in.Ints(c.most); !slices.Equal(got, c.want) || in.Err() != api.OK {
			t.Errorf("Ints(%d) of %d: %d, Err %d, want %d", c.most, c.b, got, in.Err(), c.want)
		}
		if in.Uint() != 0 || in.Uint() != 2 || in.End() != api.OK {
			t.Errorf("Ints(%d) of %d does not end where its numbers end", c.most, c.b)
		}
	}
	for _, c := range badLengths {
		in := NewIn(c.b)
		if got := in.Ints(c.most); len(got) != 0 || in.Err() != c.err {
			t.Errorf("Ints(%d) of %d: %d, Err %d, want %d", c.most, c.b, got, in.Err(), c.err)
		}
	}
}

// P2.4: the first element of a list that can't be read decides the error, and nothing is returned.
func TestIntsStopsAtTheFirstError(t *testing.T) {
	for _, c := range []struct {
		b   []byte
		err api.Errno
	}{
		{[]byte{2, 6}, api.ErrShort},
		{[]byte{2, 6, 128}, api.ErrShort},
		{[]byte{3, 6, 128, 1}, api.ErrShort},
		{[]byte{2, 6, 128, 0}, api.ErrForm},
		{append([]byte{2, 6}, repeat(9, 255, 2)...), api.ErrForm},
		{append([]byte{2, 6}, repeat(10, 255)...), api.ErrForm},
		// Fewer bytes than elements, but the first error is another one.
		{[]byte{9, 128, 0}, api.ErrForm},
		{[]byte{9, 6, 128, 0, 6}, api.ErrForm},
		// What could be read after the error is not read.
		{[]byte{2, 128, 0, 6, 5, 4}, api.ErrForm},
	} {
		in := NewIn(c.b)
		if got := in.Ints(100); len(got) != 0 || in.Err() != c.err || in.End() != c.err {
			t.Errorf("Ints of %d: %d, Err %d, want %d", c.b, got, in.Err(), c.err)
		}
	}
}

// P2.3: once an error is recorded, whoever recorded it, reads return zero values and change nothing.
func TestReadsAfterAnError(t *testing.T) {
	for _, c := range []struct {
		fail func(in *In)
		err  api.Errno
	}{
		{func(in *In) { in.Fail(api.ErrDup) }, api.ErrDup},
		{func(in *In) { in.Fail(-7) }, -7},
		{func(in *In) { in.Bytes(1) }, api.ErrLimit},
		{func(in *In) { in.Ints(-1) }, api.ErrLimit},
		{func(in *In) { in.Bytes(2); in.Uint() }, api.ErrForm},
	} {
		in := NewIn([]byte{2, 4, 4, 128, 0, 2, 4, 4, 2, 4, 4, 2, 4, 4})
		c.fail(in)
		for range 3 {
			if in.Uint() != 0 || in.Int() != 0 || len(in.Bytes(9)) != 0 || len(in.Ints(9)) != 0 {
				t.Errorf("after error %d something is read", c.err)
			}
			in.Bytes(-1)
			in.Ints(0)
			in.Fail(api.ErrCert)
			if in.Err() != c.err || in.End() != c.err {
				t.Errorf("error %d became Err %d, End %d", c.err, in.Err(), in.End())
			}
		}
	}
}

// R4: nil and empty slices are equivalent.
func TestNilAndEmptySlices(t *testing.T) {
	if a, b := written(func(o *Out) { o.Bytes(nil) }), written(func(o *Out) { o.Bytes([]byte{}) }); !slices.Equal(a, b) {
		t.Errorf("Bytes of nil and of no bytes: %d and %d", a, b)
	}
	if a, b := written(func(o *Out) { o.Ints(nil) }), written(func(o *Out) { o.Ints([]int{}) }); !slices.Equal(a, b) {
		t.Errorf("Ints of nil and of no numbers: %d and %d", a, b)
	}
	for _, b := range [][]byte{nil, {}} {
		in := NewIn(b)
		if in.End() != api.OK || in.Uint() != 0 || in.Err() != api.ErrShort {
			t.Errorf("a reader of no bytes: Err %d", in.Err())
		}
	}
}

// R4: arguments are not modified, not even beyond their length.
func TestArgumentsAreNotModified(t *testing.T) {
	b := repeat(40, 9)
	l := slices.Repeat([]int{-9}, 40)
	code := append(repeat(20, 2), repeat(20, 130)...)
	for n := range 20 {
		var o Out
		o.Bytes(b[:n])
		o.Ints(l[:n])
		o.Uint(1)
		o.Done()
		in := NewIn(code[:n])
		in.Uint()
		if got := in.Bytes(5); len(got) > 0 {
			got[0] = 77
			_ = append(got, 77)
		}
		in.Ints(5)
	}
	if !slices.Equal(b, repeat(40, 9)) || !slices.Equal(l, slices.Repeat([]int{-9}, 40)) {
		t.Errorf("written arguments became %d and %d", b, l)
	}
	if !slices.Equal(code, append(repeat(20, 2), repeat(20, 130)...)) {
		t.Errorf("the reader's argument became %d", code)
	}
}

// R4: arguments are not retained.
func TestArgumentsAreNotRetained(t *testing.T) {
	b, l := []byte("ab"), []int{3, -3}
	var o Out
	o.Bytes(b)
	o.Ints(l)
	b[0], l[0] = 'z', 99
	code := o.Done()
	if want := []byte{2, 97, 98, 2, 6, 5}; !slices.Equal(code, want) {
		t.Errorf("after changes of the arguments: %d, want %d", code, want)
	}
	in := NewIn(code)
	for i := range code {
		code[i] = 255
	}
	if got := in.Bytes(9); string(got) != "ab" {
		t.Errorf("after a change of the argument Bytes reads %q", got)
	}
	if got := in.Ints(9); !slices.Equal(got, []int{3, -3}) || in.End() != api.OK {
		t.Errorf("after a change of the argument Ints reads %d", got)
	}
}

// R4: results are newly allocated: writes to one, or to its spare capacity, reach neither the reader nor another result.
func TestResultsAreNew(t *testing.T) {
	in := NewIn([]byte{2, 1, 2, 2, 2, 4, 2, 3, 4, 2, 6, 8})
	b := in.Bytes(9)
	_ = append(b, 99, 99)
	b[0], b[1] = 99, 99
	l := in.Ints(9)
	_ = append(l, 99, 99)
	l[0], l[1] = 99, 99
	c, m := in.Bytes(9), in.Ints(9)
	if !slices.Equal(c, []byte{3, 4}) || !slices.Equal(m, []int{3, 4}) || in.End() != api.OK {
		t.Errorf("after writes to results: %d, %d, End %d", c, m, in.End())
	}
	if b[0] != 99 || l[0] != 99 {
		t.Error("later reads change earlier results")
	}
}

// R5: objects do not depend on one another, nor results on the capacity of an argument.
func TestObjectsAreIndependent(t *testing.T) {
	wide := make([]byte, 3, 40)
	copy(wide, []byte{1, 2, 3})
	a, b := NewIn(wide), NewIn(wide[:3:3])
	a.Uint()
	a.Fail(api.ErrDup)
	for want := uint64(1); want <= 3; want++ {
		if got := b.Uint(); got != want || b.Err() != api.OK {
			t.Errorf("a reader beside another one: %d, Err %d, want %d", got, b.Err(), want)
		}
	}
	c := NewIn(wide[:2])
	c.Uint()
	c.Uint()
	if c.Uint() != 0 || c.Err() != api.ErrShort {
		t.Error("a reader goes on into the spare capacity")
	}
	var o, p Out
	o.Uint(1)
	p.Uint(2)
	o.Uint(3)
	if !slices.Equal(o.Done(), []byte{1, 3}) || !slices.Equal(p.Done(), []byte{2}) {
		t.Errorf("two Outs hold %d and %d", o.Done(), p.Done())
	}
}
