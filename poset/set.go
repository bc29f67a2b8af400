package poset

import (
	"iter"
	"math/bits"
)

// wordSize is the number of bits of a word.
const wordSize = 64

// set is a set of elements: bit i of word w stands for the element w*wordSize + i. All sets of an order have the same number of words.
type set []uint64

// newSet returns an empty set of elements less than n.
func newSet(n int) set { return make(set, (n+wordSize-1)/wordSize) }

func (s set) has(a int) bool { return s[a/wordSize]>>(a%wordSize)&1 == 1 }
func (s set) add(a int)      { s[a/wordSize] |= 1 << (a % wordSize) }
func (s set) remove(a int)   { s[a/wordSize] &^= 1 << (a % wordSize) }

// addAll adds the members of another set.
func (s set) addAll(t set) {
	for i, w := range t {
		s[i] |= w
	}
}

// removeAll removes the members of another set.
func (s set) removeAll(t set) {
	for i, w := range t {
		s[i] &^= w
	}
}

// meets reports whether another set has a common member.
func (s set) meets(t set) bool {
	for i, w := range t {
		if s[i]&w != 0 {
			return true
		}
	}
	return false
}

// first returns the smallest member, or false if there is none.
func (s set) first() (int, bool) {
	for a := range s.members() {
		return a, true
	}
	return 0, false
}

// members yields the members in increasing order.
func (s set) members() iter.Seq[int] {
	return func(yield func(int) bool) {
		for i, w := range s {
			for ; w != 0; w &= w - 1 {
				if !yield(i*wordSize + bits.TrailingZeros64(w)) {
					return
				}
			}
		}
	}
}

// key returns a string that differs from those of other sets of the same order.
func (s set) key() string {
	var b []byte
	for _, w := range s {
		for i := range wordSize / 8 {
			b = append(b, byte(w>>(8*i)))
		}
	}
	return string(b)
}
