// Package nat is naturals of any length.
package nat

import "math/bits"

const wordBits = 64

// Nat is a whole number from 0 on. Its words stand with the lowest first, and the last of them is not 0, so that a number has one form. They are never written to once they are a Nat's: that is why copies and answers may share them.
type Nat struct{ words []uint64 }

// Of is n.
func Of(n uint64) Nat {
	return trimmed([]uint64{n})
}

// trimmed makes a Nat of words that are nobody else's to write to.
func trimmed(words []uint64) Nat {
	n := len(words)
	for n > 0 && words[n-1] == 0 {
		n--
	}
	if n == 0 {
		return Nat{}
	}
	return Nat{words[:n]}
}

// FromBytes is the number of some bytes, the highest first.
func FromBytes(b []byte) Nat {
	for len(b) > 0 && b[0] == 0 {
		b = b[1:]
	}
	words := make([]uint64, (len(b)+7)/8)
	for i, digit := range b {
		place := len(b) - 1 - i
		words[place/8] |= uint64(digit) << (place % 8 * 8)
	}
	return trimmed(words)
}

// Bytes are x's bytes, the highest first.
func (x Nat) Bytes() []byte {
	b := make([]byte, (x.Len()+7)/8)
	for i := range b {
		place := len(b) - 1 - i
		b[i] = byte(x.words[place/8] >> (place % 8 * 8))
	}
	return b
}

// Cmp is -1, 0 or 1.
func (x Nat) Cmp(y Nat) int {
	switch {
	case len(x.words) < len(y.words):
		return -1
	case len(x.words) > len(y.words):
		return 1
	}
	for i := len(x.words) - 1; i >= 0; i-- {
		switch {
		case x.words[i] < y.words[i]:
			return -1
		case x.words[i] > y.words[i]:
			return 1
		}
	}
	return 0
}

// Len is how many binary digits x has.
func (x Nat) Len() int {
	if len(x.words) == 0 {
		return 0
	}
	last := len(x.words) - 1
	return last*wordBits + bits.Len64(x.words[last])
}

// Bit is whether x has 2^i.
func (x Nat) Bit(i int) bool {
	if i < 0 || i >= x.Len() {
		return false
	}
	return x.words[i/wordBits]>>(i%wordBits)&1 == 1
}

// Uint is x as a word.
func (x Nat) Uint() (uint64, bool) {
	switch len(x.words) {
	case 0:
		return 0, true
	case 1:
		return x.words[0], true
	}
	return 0, false
}
