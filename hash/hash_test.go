package hash

import (
	"bytes"
	"math"
	"math/big"
	"slices"
	"strings"
	"testing"
)

// mixAll follows the definition of mixing with integers of any size, for a list of words that the test spells out.
func mixAll(words ...uint64) uint64 {
	modulus := new(big.Int).Lsh(big.NewInt(1), 64)
	factor := new(big.Int).SetUint64(0x9E3779B97F4A7C15)
	state := new(big.Int)
	for _, w := range words {
		m := new(big.Int).Xor(state, new(big.Int).SetUint64(w))
		m.Mul(m, factor).Mod(m, modulus)
		state.Xor(m, new(big.Int).Rsh(m, 32))
	}
	return state.Uint64()
}

// unmixState returns the state into which mixing a word gives the state after.
func unmixState(after, word uint64) uint64 {
	m := after ^ after>>32
	// Newton's iteration for the inverse of an odd number modulo 2^64: every round doubles the number of right bits.
	const odd = uint64(0x9E3779B97F4A7C15)
	inverse := odd
	for range 6 {
		inverse *= 2 - odd*inverse
	}
	return m*inverse ^ word
}

// P1.1: the words that are mixed in, and their order.
func TestSumMixesTheListedWords(t *testing.T) {
	const ones = math.MaxUint64
	for _, c := range []struct {
		label string
		words []int
		mixed []uint64
	}{
		{"", nil, []uint64{0, 0, 0}},
		{"", []int{0}, []uint64{0, 1, 0, 0}},
		{"", []int{7}, []uint64{0, 1, 7, 0}},
		{"a", nil, []uint64{'a', 1, 0, 0}},
		{"a", []int{5}, []uint64{'a', 1, 1, 5, 0}},
		{"a", []int{5, 9}, []uint64{'a', 1, 2, 5, 9, 0}},
		{"a", []int{9, 5}, []uint64{'a', 1, 2, 9, 5, 0}},
		{"a", []int{-1}, []uint64{'a', 1, 1, ones, 0}},
		{"a", []int{-2, math.MinInt, math.MaxInt}, []uint64{'a', 1, 3, ones - 1, 1 << 63, ones >> 1, 0}},
		{"ab", nil, []uint64{0x6261, 2, 0, 0}},
		{"abcdefg", []int{1}, []uint64{0x67666564636261, 7, 1, 1, 0}},
		{"abcdefgh", []int{1}, []uint64{0x6867666564636261, 8, 1, 1, 0}},
		{"abcdefghi", []int{1}, []uint64{0x6867666564636261, 'i', 9, 1, 1, 0}},
		{"abcdefghabcdefgh", nil, []uint64{0x6867666564636261, 0x6867666564636261, 16, 0, 0}},
		{"\x00", nil, []uint64{0, 1, 0, 0}},
		{"\xff\x00", nil, []uint64{0xff, 2, 0, 0}},
		{"\u00e9", nil, []uint64{0xa9c3, 2, 0, 0}},
	} {
		if got, want := Sum(c.label, c.words...), mixAll(c.mixed...); got != want {
			t.Errorf("Sum(%q, %d) = %#x, want %#x", c.label, c.words, got, want)
		}
	}
}

// P1.1: values that a separate program, not written in Go, computed from the definitions.
func TestSumValues(t *testing.T) {
	for _, c := range []struct {
		label string
		words []int
		want  uint64
	}{
		{"", nil, 0},
		{"", []int{0}, 0x9c60c22591400851},
		{"a", []int{5}, 0xdbbe367e93b58544},
		{"a", []int{6}, 0x49fc8178b938ecaf},
		{"a", []int{-1}, 0x09ee594d249f2a64},
		{"n", []int{math.MinInt, math.MaxInt}, 0x409af36ad86d7d91},
		{"abcdefgh", []int{1, 2, 3}, 0xb9b7f7a5de698000},
		{"abcdefghi", []int{1, 2, 3}, 0x64b540f187a31dd9},
		{"\xff\x00", []int{7}, 0x205c5c6e0545567f},
	} {
		if got := Sum(c.label, c.words...); got != c.want {
			t.Errorf("Sum(%q, %d) = %#x, want %#x", c.label, c.words, got, c.want)
		}
	}
}

// P1.1: nothing but the number of words tells apart lists that end in different numbers of zeros.
func TestSumCountsItsWords(t *testing.T) {
	seen := map[uint64]int{}
	for n := range 50 {
		h := Sum("zeros", make([]int, n)...)
		if m, ok := seen[h]; ok {
			t.Errorf("%d and %d zeros have the same sum", m, n)
		}
		seen[h] = n
	}
}

// P1.1: padding a label with a zero byte changes its length only.
func TestSumCountsTheLabel(t *testing.T) {
	for _, label := range []string{"", "a", "abcdefg", "abcdefgh"} {
		if Sum(label, 1) == Sum(label+"\x00", 1) {
			t.Errorf("%q and the same label with a zero byte have the same sum", label)
		}
	}
}

// P1.2: Bytes is Sum of the words and the length.
func TestBytesIsSumOfWords(t *testing.T) {
	for _, c := range []struct {
		b     []byte
		words []int
	}{
		{nil, []int{0}},
		{[]byte{}, []int{0}},
		{[]byte{0}, []int{0, 1}},
		{[]byte{1, 2}, []int{513, 2}},
		{[]byte{1, 2, 0}, []int{513, 3}},
		{[]byte{255}, []int{255, 1}},
		{[]byte{1, 2, 3, 4, 5, 6, 7}, []int{0x07060504030201, 7}},
		{[]byte{1, 2, 3, 4, 5, 6, 7, 8}, []int{0x0807060504030201, 8}},
		{[]byte{1, 2, 3, 4, 5, 6, 7, 8, 9}, []int{0x0807060504030201, 9, 9}},
		{[]byte{0, 0, 0, 0, 0, 0, 0, 128}, []int{math.MinInt, 8}},
		{bytes.Repeat([]byte{255}, 8), []int{-1, 8}},
		{bytes.Repeat([]byte{255}, 15), []int{-1, 1<<56 - 1, 15}},
		{make([]byte, 16), []int{0, 0, 16}},
		{make([]byte, 17), []int{0, 0, 0, 17}},
	} {
		for _, label := range []string{"", "x", "a longer label"} {
			if got, want := Bytes(label, c.b), Sum(label, c.words...); got != want {
				t.Errorf("Bytes(%q, %d) = %#x, want %#x", label, c.b, got, want)
			}
		}
	}
}

// P1.2: values that a separate program, not written in Go, computed from the definitions.
func TestBytesValues(t *testing.T) {
	for _, c := range []struct {
		label, b string
		want     uint64
	}{
		{"", "", 0x9c60c22591400851},
		{"a", "\x01\x02", 0x5cd85cbd93fd0838},
		{"x", strings.Repeat("\x00", 8), 0x6f076e6cef5f0513},
		{"x", strings.Repeat("\x00", 7) + "\x80", 0xd178071241e23e8b},
		{"x", "123456789", 0x2042f8d3cbd23ef1},
		{"x", strings.Repeat("\xff", 8), 0xc3d642eb6703f605},
	} {
		if got := Bytes(c.label, []byte(c.b)); got != c.want {
			t.Errorf("Bytes(%q, %q) = %#x, want %#x", c.label, c.b, got, c.want)
		}
	}
}

// P1.2: Pair is Sum of both numbers under a fixed label.
func TestPairIsSum(t *testing.T) {
	for _, c := range []struct {
		a, b uint64
		x, y int
		want uint64
	}{
		{0, 0, 0, 0, 0xa37203a6cd944451},
		{1, 2, 1, 2, 0xd5e6a2a3a39a5df8},
		{2, 1, 2, 1, 0x9a705c9df9b46602},
		{1 << 63, 5, math.MinInt, 5, 0xd2e16b299fbc35d0},
		{math.MaxUint64, math.MaxUint64, -1, -1, 0x7d494b93e5939a5f},
	} {
		got := Pair(c.a, c.b)
		if got != c.want {
			t.Errorf("Pair(%d, %d) = %#x, want %#x", c.a, c.b, got, c.want)
		}
		if want := Sum("pair", c.x, c.y); got != want {
			t.Errorf("Pair(%d, %d) = %#x, but Sum gives %#x", c.a, c.b, got, want)
		}
	}
}

// someWords returns words near the ends of the range, single bits, and others without a pattern.
func someWords() []uint64 {
	l := []uint64{0, 1, 2, math.MaxUint32, 1 << 32, math.MaxInt64, math.MaxUint64 - 1, math.MaxUint64}
	for bit := range 64 {
		l = append(l, 1<<bit)
	}
	for w := uint64(12345); len(l) < 200; {
		w = w*6364136223846793005 + 1442695040888963407
		l = append(l, w)
	}
	slices.Sort(l)
	return slices.Compact(l)
}

// P1.3: mixing can be undone, so it is a bijection of the state; the state and the word enter it alike, so it is one of the word, too.
func TestMixingIsABijection(t *testing.T) {
	for _, state := range someWords() {
		for _, word := range someWords() {
			after := mix(state, word)
			if back := unmixState(after, word); back != state {
				t.Fatalf("mix(%#x, %#x) is also mix(%#x, %#x)", state, word, back, word)
			}
			if mix(word, state) != after {
				t.Fatalf("mix(%#x, %#x) depends on more than the xor", state, word)
			}
		}
	}
}

// P1.3: lists that differ in exactly one element.
func TestSumIsInjectiveInOneWord(t *testing.T) {
	for _, label := range []string{"", "n", "a longer label"} {
		for _, list := range [][]int{{0}, {3, -4}, {1, 0, 0, -1, math.MaxInt}} {
			for i := range list {
				seen := map[uint64]uint64{}
				changed := slices.Clone(list)
				for _, w := range someWords() {
					changed[i] = int(w)
					h := Sum(label, changed...)
					if other, ok := seen[h]; ok {
						t.Errorf("Sum(%q, ..) is the same for %#x and %#x at %d of %d", label, other, w, i, list)
					}
					seen[h] = w
				}
			}
		}
	}
}

// P1.3: byte slices that differ in a single group. The changes are such that they would cancel each other if bytes were added up or moved.
func TestBytesIsInjectiveInOneGroup(t *testing.T) {
	base := []byte("0123456789abcdefghijk")
	for n := 1; n <= len(base); n++ {
		for start := 0; start < n; start += 8 {
			end := min(start+8, n)
			seen := map[uint64][]byte{}
			for _, group := range changedGroups(base[start:end]) {
				b := slices.Clone(base[:n])
				copy(b[start:], group)
				h := Bytes("b", b)
				if other, ok := seen[h]; ok {
					t.Errorf("Bytes of %q and %q are the same", other, b)
				}
				seen[h] = b
			}
		}
	}
}

// changedGroups returns a group, all groups that differ from it in one byte, and its rotations.
func changedGroups(group []byte) [][]byte {
	l := [][]byte{group}
	for i := range group {
		for c := range 256 {
			if byte(c) != group[i] {
				b := slices.Clone(group)
				b[i] = byte(c)
				l = append(l, b)
			}
		}
		if i > 0 {
			l = append(l, slices.Concat(group[i:], group[:i]))
		}
	}
	return l
}

// P1.3: equal argument lists under two labels of equal length that differ in a single group.
func TestLabelsAreInjectiveInOneGroup(t *testing.T) {
	base := "0123456789abcdefghijk"
	for n := 1; n <= len(base); n++ {
		for start := 0; start < n; start += 8 {
			end := min(start+8, n)
			sums, hashes := map[uint64]string{}, map[uint64]string{}
			for _, group := range changedGroups([]byte(base[start:end])) {
				label := base[:start] + string(group) + base[end:n]
				h, k := Sum(label, 1, -2), Bytes(label, []byte("some bytes"))
				if other, ok := sums[h]; ok {
					t.Errorf("sums under %q and %q are the same", other, label)
				}
				if other, ok := hashes[k]; ok {
					t.Errorf("hashes under %q and %q are the same", other, label)
				}
				sums[h], hashes[k] = label, label
			}
		}
	}
}

// P1.4: Pair is injective in each argument.
func TestPairIsInjective(t *testing.T) {
	for _, fixed := range []uint64{0, 1, 1 << 32, 1 << 63, math.MaxUint64, 0x0123456789abcdef} {
		first, second := map[uint64]uint64{}, map[uint64]uint64{}
		for _, w := range someWords() {
			h, k := Pair(w, fixed), Pair(fixed, w)
			if other, ok := first[h]; ok {
				t.Errorf("Pair(%#x, %#x) equals Pair(%#x, %#x)", other, fixed, w, fixed)
			}
			if other, ok := second[k]; ok {
				t.Errorf("Pair(%#x, %#x) equals Pair(%#x, %#x)", fixed, other, fixed, w)
			}
			first[h], second[k] = w, w
		}
	}
}

// R4: arguments are not modified, not even beyond their length.
func TestArgumentsAreNotModified(t *testing.T) {
	words := []int{1, -2, 3, 77, 78, 79}
	Sum("label", words[:3]...)
	if want := []int{1, -2, 3, 77, 78, 79}; !slices.Equal(words, want) {
		t.Errorf("Sum left %d, want %d", words, want)
	}
	for n := range 20 {
		b := bytes.Repeat([]byte{9}, 40)
		Bytes("label", b[:n])
		if !bytes.Equal(b, bytes.Repeat([]byte{9}, 40)) {
			t.Errorf("Bytes of %d bytes left %d", n, b)
		}
	}
}

// R4: arguments are not retained, and nil and empty slices are equivalent. R5: results depend on nothing but the arguments.
func TestResultsDependOnArgumentsOnly(t *testing.T) {
	words, b := []int{1, 2, 3}, []byte("123456789")
	sum, sumOfBytes := Sum("label", words...), Bytes("label", b)
	words[1]++
	b[8]++
	if Sum("label", words...) == sum || Bytes("label", b) == sumOfBytes {
		t.Error("a changed argument has the earlier hash")
	}
	if Sum("label", 1, 2, 3) != sum || Bytes("label", []byte("123456789")) != sumOfBytes {
		t.Error("equal arguments have different hashes")
	}
	if Sum("label") != Sum("label", []int{}...) || Sum("label") != Sum("label", []int(nil)...) {
		t.Error("nil and empty lists have different sums")
	}
	if Bytes("label", nil) != Bytes("label", []byte{}) {
		t.Error("nil and empty byte slices have different hashes")
	}
	// Bytes beyond the length must not take the place of the padding.
	if spare := []byte("123456789rest"); Bytes("label", spare[:9]) != sumOfBytes {
		t.Error("bytes beyond the length count")
	}
}

// The examples of the chapter.
func TestExamples(t *testing.T) {
	if Sum("a", 5) == Sum("a", 6) {
		t.Error("Sum(\"a\", 5) equals Sum(\"a\", 6)")
	}
	for _, label := range []string{"", "a", "another label"} {
		if Bytes(label, []byte{1, 2}) != Sum(label, 513, 2) {
			t.Errorf("the bytes 1 and 2 under %q", label)
		}
	}
}

// R1: a large argument, which has to take time in proportion to its size.
func TestLargeArguments(t *testing.T) {
	b := make([]byte, 1<<22)
	b[len(b)-1] = 1
	if Bytes("large", b) == Bytes("large", make([]byte, len(b))) {
		t.Error("the last of many bytes does not count")
	}
	words := make([]int, 1<<20)
	words[len(words)-1] = 1
	if Sum("large", words...) == Sum("large", make([]int, len(words))...) {
		t.Error("the last of many words does not count")
	}
	label := strings.Repeat("l", 1<<20)
	if Sum(label) == Sum(label[1:]+"m") {
		t.Error("the last byte of a long label does not count")
	}
}
