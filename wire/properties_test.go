package wire

import (
	"encoding/binary"
	"math"
	"math/big"
	"math/bits"
	"math/rand"
	"slices"
	"testing"

	"simproof/api"
)

// value is a value of one of the four kinds; the fields of the other kinds are zero.
type value struct {
	kind byte // 'u', 'i', 'b' or 'l'
	u    uint64
	i    int
	b    []byte
	l    []int
}

func (v value) equal(w value) bool {
	return v.kind == w.kind && v.u == w.u && v.i == w.i && slices.Equal(v.b, w.b) && slices.Equal(v.l, w.l)
}

func (v value) write(o *Out) {
	switch v.kind {
	case 'u':
		o.Uint(v.u)
	case 'i':
		o.Int(v.i)
	case 'b':
		o.Bytes(v.b)
	case 'l':
		o.Ints(v.l)
	}
}

// read reads a value of a kind. It allows any length.
func read(in *In, kind byte) value {
	switch kind {
	case 'u':
		return value{kind: kind, u: in.Uint()}
	case 'i':
		return value{kind: kind, i: in.Int()}
	case 'b':
		return value{kind: kind, b: in.Bytes(math.MaxInt)}
	}
	return value{kind: kind, l: in.Ints(math.MaxInt)}
}

// encode returns the encoding of some values.
func encode(values []value) []byte {
	var o Out
	for _, v := range values {
		v.write(&o)
	}
	return o.Done()
}

// number returns a number of some random length, so that all lengths of varints appear.
func number(r *rand.Rand) uint64 { return r.Uint64() >> r.Intn(65) }

// someValue returns a random value.
func someValue(r *rand.Rand) value {
	v := value{kind: "uibl"[r.Intn(4)]}
	switch v.kind {
	case 'u':
		v.u = number(r)
	case 'i':
		v.i = int(number(r)) * (1 - 2*r.Intn(2))
	case 'b':
		v.b = make([]byte, r.Intn(6)*r.Intn(40))
		r.Read(v.b)
	case 'l':
		for range r.Intn(6) * r.Intn(40) {
			v.l = append(v.l, int(number(r))*(1-2*r.Intn(2)))
		}
	}
	return v
}

// someValues returns a random sequence of values.
func someValues(r *rand.Rand) []value {
	var l []value
	for range r.Intn(6) {
		l = append(l, someValue(r))
	}
	return l
}

// edgeValues are the ends of all ranges.
func edgeValues() []value {
	l := []value{{kind: 'b'}, {kind: 'l'}, {kind: 'b', b: make([]byte, 300)}, {kind: 'l', l: make([]int, 300)}}
	l = append(l, value{kind: 'l', l: []int{math.MinInt, -1, 0, 1, math.MaxInt}})
	for bit := range 65 {
		for _, n := range []uint64{1<<bit - 1, 1 << bit, 1<<bit + 1} {
			l = append(l, value{kind: 'u', u: n}, value{kind: 'i', i: int(n)}, value{kind: 'i', i: -int(n)})
		}
	}
	return l
}

// P2.5: reading what was written gives the same values.
func TestRoundTrip(t *testing.T) {
	r := rand.New(rand.NewSource(5))
	sequences := [][]value{nil, edgeValues()}
	for range 2000 {
		sequences = append(sequences, someValues(r))
	}
	for _, values := range sequences {
		in := NewIn(encode(values))
		for i, v := range values {
			if got := read(in, v.kind); !got.equal(v) || in.Err() != api.OK {
				t.Fatalf("value %d: %v, Err %d, want %v", i, got, in.Err(), v)
			}
		}
		if in.End() != api.OK {
			t.Fatalf("End %d after %v", in.End(), values)
		}
	}
}

// P2.1: the encodings agree with those of another implementation of varints and zigzag forms.
func TestEncodingsAgreeWithAnotherImplementation(t *testing.T) {
	r := rand.New(rand.NewSource(1))
	values := edgeValues()
	for range 2000 {
		values = append(values, someValue(r))
	}
	for _, v := range values {
		var want []byte
		switch v.kind {
		case 'u':
			want = binary.AppendUvarint(nil, v.u)
		case 'i':
			want = binary.AppendVarint(nil, int64(v.i))
		case 'b':
			want = append(binary.AppendUvarint(nil, uint64(len(v.b))), v.b...)
		case 'l':
			want = binary.AppendUvarint(nil, uint64(len(v.l)))
			for _, n := range v.l {
				want = binary.AppendVarint(want, int64(n))
			}
		}
		if got := encode([]value{v}); !slices.Equal(got, want) {
			t.Fatalf("the encoding of %v is %d, want %d", v, got, want)
		}
	}
}

// rewritten reads values of some kinds from b. If this succeeds up to the end of b, it returns what writing them gives.
func rewritten(b []byte, kinds string) ([]byte, bool) {
	in := NewIn(b)
	var values []value
	for _, kind := range []byte(kinds) {
		values = append(values, read(in, kind))
	}
	if in.End() != api.OK {
		return nil, false
	}
	return encode(values), true
}

// P2.6: bytes that can be read are those that writing gives. The bytes are of the kinds that decide about a varint: small ones, the last ones of a group, and 0.
func TestEncodingIsCanonical(t *testing.T) {
	kinds := []string{"", "u", "i", "b", "l", "uu", "ui", "bu", "lb", "ll", "uuu"}
	alphabet := []byte{0, 1, 2, 3, 127, 128, 129, 255}
	succeeded := 0
	var extend func(b []byte, room int)
	extend = func(b []byte, room int) {
		for _, k := range kinds {
			if got, ok := rewritten(b, k); ok {
				succeeded++
				if !slices.Equal(got, b) {
					t.Fatalf("%d is read as %q and written as %d", b, k, got)
				}
			}
		}
		if room == 0 {
			return
		}
		for _, c := range alphabet {
			extend(append(slices.Clone(b), c), room-1)
		}
	}
	extend(nil, 4)
	for _, start := range [][]byte{repeat(7, 255), repeat(8, 128), repeat(9, 255), {1, 255, 255, 255, 255, 255, 255, 255, 255, 255}} {
		extend(start, 3)
	}
	if succeeded < 1000 {
		t.Errorf("only %d reads succeeded", succeeded)
	}
}

// P2.6: changed encodings, if they can be read at all.
func TestChangedEncodingIsCanonical(t *testing.T) {
	r := rand.New(rand.NewSource(6))
	for range 20000 {
		values := someValues(r)
		b := encode(values)
		kinds := ""
		for _, v := range values {
			kinds += string(rune(v.kind))
		}
		if len(b) > 0 {
			i := r.Intn(len(b))
			switch r.Intn(3) {
			case 0:
				b[i] ^= 1 << r.Intn(8)
			case 1:
				b = slices.Insert(b, i, byte(r.Intn(2)*128))
			case 2:
				b = slices.Delete(b, i, i+1)
			}
		}
		if got, ok := rewritten(b, kinds); ok && !slices.Equal(got, b) {
			t.Fatalf("%d is read as %q and written as %d", b, kinds, got)
		}
	}
}

// expected follows the definition of a varint with integers of any size: the value at the beginning of b and its number of bytes, or an error.
func expected(b []byte) (uint64, int, api.Errno) {
	last := slices.IndexFunc(b, func(c byte) bool { return c < 128 })
	if last < 0 && len(b) < 10 {
		return 0, 0, api.ErrShort
	}
	if last < 0 || last >= 10 || last > 0 && b[last] == 0 {
		return 0, 0, api.ErrForm
	}
	n := new(big.Int)
	for i, c := range b[:last+1] {
		n.Or(n, new(big.Int).Lsh(big.NewInt(int64(c&127)), uint(7*i)))
	}
	if !n.IsUint64() {
		return 0, 0, api.ErrForm
	}
	return n.Uint64(), last + 1, api.OK
}

// P2.3: Uint reads exactly the valid varints. All sequences of two bytes appear, and longer ones around each possible length.
func TestUintFollowsTheDefinition(t *testing.T) {
	starts := [][]byte{nil, {0}, {255, 0}, {128, 0, 1}}
	for n := range 12 {
		starts = append(starts, repeat(n, 128), repeat(n, 129), repeat(n, 255), repeat(n, 171))
	}
	check := func(b []byte) {
		in := NewIn(b)
		want, size, err := expected(b)
		if got := in.Uint(); got != want || in.Err() != err {
			t.Fatalf("Uint of %d: %d, Err %d, want %d, %d", b, got, in.Err(), want, err)
		}
		if err == api.OK && (in.End() == api.OK) != (size == len(b)) {
			t.Fatalf("Uint of %d: End %d, want %d bytes to be read", b, in.End(), size)
		}
	}
	for _, start := range starts {
		check(start)
		for c := range 256 {
			b := append(slices.Clone(start), byte(c))
			check(b)
			for d := range 256 {
				check(append(slices.Clone(b), byte(d)))
			}
		}
	}
}

// P2.7: a proper prefix of an encoding is too short, whatever its values are.
func TestPrefixesAreTooShort(t *testing.T) {
	r := rand.New(rand.NewSource(7))
	var sequences [][]value
	for _, v := range edgeValues() {
		sequences = append(sequences, []value{v})
	}
	for range 300 {
		sequences = append(sequences, someValues(r))
	}
	for _, values := range sequences {
		b := encode(values)
		for n := range b {
			in := NewIn(b[:n])
			for _, v := range values {
				if got := read(in, v.kind); in.Err() != api.OK && !got.equal(value{kind: v.kind}) {
					t.Fatalf("%d of %d bytes of %v are read as %v with error %d", n, len(b), values, got, in.Err())
				}
			}
			if in.Err() != api.ErrShort || in.End() != api.ErrShort {
				t.Fatalf("%d of %d bytes of %v: Err %d", n, len(b), values, in.Err())
			}
		}
	}
}

// P2.7: a varint has one byte for every 7 bits that are needed.
func TestVarintLength(t *testing.T) {
	lengths := map[int]bool{}
	for _, v := range edgeValues() {
		if v.kind != 'u' {
			continue
		}
		n := len(encode([]value{v}))
		if want := max(1, (bits.Len64(v.u)+6)/7); n != want {
			t.Errorf("%d has a varint of %d bytes, want %d", v.u, n, want)
		}
		lengths[n] = true
	}
	if len(lengths) != 10 {
		t.Errorf("the lengths are %v, want 1 to 10", lengths)
	}
}
