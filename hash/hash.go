// Package hash implements a 64-bit hash of integers and bytes. See shared/doc/01-hash.md.
package hash

import "iter"

// The multiplier is odd, so that multiplying by it modulo 2^64 can be undone: mixing loses no information.
const multiplier = 0x9E3779B97F4A7C15

// groupSize is the number of bytes that fill a word.
const groupSize = 8

// Sum hashes a label and a sequence of integers.
func Sum(label string, words ...int) uint64 {
	state := uint64(0)
	for w := range wordsOf([]byte(label)) {
		state = mix(state, w)
	}
	state = mix(state, uint64(len(label)))
	state = mix(state, uint64(len(words)))
	for _, w := range words {
		state = mix(state, uint64(w))
	}
	return mix(state, 0)
}

// Bytes hashes a label and a byte slice.
func Bytes(label string, b []byte) uint64 {
	// Room for a padded last group and for the length.
	words := make([]int, 0, len(b)/groupSize+2)
	for w := range wordsOf(b) {
		words = append(words, int(w))
	}
	words = append(words, len(b))
	return Sum(label, words...)
}

// Pair hashes two hashes.
func Pair(a, b uint64) uint64 { return Sum("pair", int(a), int(b)) }

// mix returns the state into which a word is mixed.
func mix(state, word uint64) uint64 {
	m := (state ^ word) * multiplier
	return m ^ m>>32
}

// wordsOf yields the words of a byte slice.
func wordsOf(b []byte) iter.Seq[uint64] {
	return func(yield func(uint64) bool) {
		for start := 0; start < len(b); start += groupSize {
			end := min(start+groupSize, len(b))
			if !yield(wordOf(b[start:end])) {
				return
			}
		}
	}
}

// wordOf returns the word of a group of at most groupSize bytes. Bytes that the last group lacks count as zero.
func wordOf(group []byte) uint64 {
	w := uint64(0)
	for i, c := range group {
		w |= uint64(c) << (8 * i)
	}
	return w
}
