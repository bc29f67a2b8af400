package world

import "simproof/api"

// wordBits is the number of bits of a word of a codeSet.
const wordBits = 64

// codeSet is a set of instructions of a program, by their indices: one bit for each.
type codeSet [(api.MaxCode + wordBits - 1) / wordBits]uint64

// add adds an instruction.
func (s *codeSet) add(i int) { s[i/wordBits] |= 1 << (i % wordBits) }

// has reports whether an instruction is in the set.
func (s codeSet) has(i int) bool { return s[i/wordBits]>>(i%wordBits)&1 == 1 }
