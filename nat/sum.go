package nat

import "math/bits"

// Add is x + y.
func (x Nat) Add(y Nat) Nat {
	long, short := x.words, y.words
	if len(long) < len(short) {
		long, short = short, long
	}
	if len(short) == 0 {
		return Nat{long}
	}
	sum := make([]uint64, len(long), len(long)+1)
	copy(sum, long)
	if carry := addWords(sum, short); carry != 0 {
		sum = append(sum, carry)
	}
	return Nat{sum}
}

// Sub is x - y.
func (x Nat) Sub(y Nat) (Nat, bool) {
	if x.Cmp(y) < 0 {
		return Nat{}, false
	}
	return x.less(y), true
}

// less is x - y where y is known not to be above x.
func (x Nat) less(y Nat) Nat {
	if len(y.words) == 0 {
		return x
	}
	rest := make([]uint64, len(x.words))
	copy(rest, x.words)
	subWords(rest, y.words)
	return trimmed(rest)
}

// addWords adds y to sum, which is not the shorter one, and tells what is carried beyond it.
func addWords(sum, y []uint64) uint64 {
	var carry uint64
	for i, word := range y {
		sum[i], carry = bits.Add64(sum[i], word, carry)
	}
	for i := len(y); carry != 0 && i < len(sum); i++ {
		sum[i], carry = bits.Add64(sum[i], 0, carry)
	}
	return carry
}

// subWords takes y, which is not above it, from rest.
func subWords(rest, y []uint64) {
	var borrow uint64
	for i, word := range y {
		rest[i], borrow = bits.Sub64(rest[i], word, borrow)
	}
	for i := len(y); borrow != 0 && i < len(rest); i++ {
		rest[i], borrow = bits.Sub64(rest[i], 0, borrow)
	}
}

// total is the sum of all parts.
func total(parts ...Nat) Nat {
	return fold(parts, func(sum Nat) func(Nat) Nat { return sum.Add })
}

// fold goes through the parts from 0 on; join gives the method by which what was gathered so far takes in the next one.
func fold(parts []Nat, join func(Nat) func(Nat) Nat) Nat {
	var gathered Nat
	for _, part := range parts {
		gathered = join(gathered)(part)
	}
	return gathered
}

// reached is how many of the marks a number is not below; cmp is that number's Cmp.
func reached(marks []Nat, cmp func(Nat) int) int {
	n := 0
	for _, mark := range marks {
		if cmp(mark) >= 0 {
			n++
		}
	}
	return n
}
