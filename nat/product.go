package nat

import "math/bits"

// Below so many words the plain product is the faster one.
const splitProduct = 100

// Mul is x * y.
func (x Nat) Mul(y Nat) Nat {
	if len(x.words) < len(y.words) {
		x, y = y, x
	}
	if len(y.words) < splitProduct {
		return plainProduct(x.words, y.words)
	}
	half := (len(x.words) + 1) / 2
	if len(y.words) <= half {
		low, high := x.split(half)
		return total(low.Mul(y), high.Mul(y).raised(half))
	}
	return threeProducts(x, y, half)
}

// threeProducts is x * y where both are split at half: three products do where four would stand, because the two mixed ones are wanted only as a sum.
func threeProducts(x, y Nat, half int) Nat {
	xLow, xHigh := x.split(half)
	yLow, yHigh := y.split(half)
	low, high := xLow.Mul(yLow), xHigh.Mul(yHigh)
	mixed := xLow.Add(xHigh).Mul(yLow.Add(yHigh)).less(low.Add(high))
	return total(low, mixed.raised(half), high.raised(2*half))
}

func plainProduct(x, y []uint64) Nat {
	words := make([]uint64, len(x)+len(y))
	for i, digit := range y {
		words[i+len(x)] = addProduct(words[i:], x, digit)
	}
	return trimmed(words)
}

// addProduct adds x * digit to sum's first words, as many as x has, and tells what is carried beyond them.
func addProduct(sum, x []uint64, digit uint64) uint64 {
	sum = sum[:len(x)]
	var carry uint64
	for i, word := range x {
		high, low := bits.Mul64(word, digit)
		var c uint64
		low, c = bits.Add64(low, carry, 0)
		high += c
		sum[i], c = bits.Add64(sum[i], low, 0)
		carry = high + c
	}
	return carry
}

// subProduct takes x * digit from rest's first words, as many as x has, and tells what is borrowed from beyond them.
func subProduct(rest, x []uint64, digit uint64) uint64 {
	rest = rest[:len(x)]
	var borrow uint64
	for i, word := range x {
		high, low := bits.Mul64(word, digit)
		var c uint64
		low, c = bits.Add64(low, borrow, 0)
		high += c
		rest[i], c = bits.Sub64(rest[i], low, 0)
		borrow = high + c
	}
	return borrow
}
