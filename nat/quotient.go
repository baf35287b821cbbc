package nat

import (
	"math"
	"math/bits"
)

// Below so many words of a divisor or a quotient the plain division is the faster one.
const splitQuotient = 100

// DivMod is x / y, and what is left.
func (x Nat) DivMod(y Nat) (Nat, Nat, bool) {
	switch {
	case len(y.words) == 0:
		return Nat{}, Nat{}, false
	case x.Cmp(y) < 0:
		return Nat{}, x, true
	case len(y.words) == 1:
		words := make([]uint64, len(x.words))
		copy(words, x.words)
		rest := divideByWord(words, y.words[0])
		return trimmed(words), Of(rest), true
	}
	// Quotient digits are guessed from the divisor's highest words: the guess is near only if its highest bit is set.
	shift := bits.LeadingZeros64(y.words[len(y.words)-1])
	quotient, rest := divide(x.up(shift), y.up(shift))
	return quotient, rest.Right(shift), true
}

// divideByWord makes words their quotient by y, and tells what is left.
func divideByWord(words []uint64, y uint64) uint64 {
	var rest uint64
	for i := len(words) - 1; i >= 0; i-- {
		words[i], rest = bits.Div64(rest, words[i], y)
	}
	return rest
}

// divide is the quotient and the rest by a y of two words or more whose highest bit is set.
func divide(x, y Nat) (Nat, Nat) {
	n := len(y.words)
	if n < splitQuotient || len(x.words)-n < splitQuotient {
		return plainQuotient(x, y)
	}
	quotient := make([]uint64, len(x.words)+n)
	var rest Nat
	for at := (len(x.words) - 1) / n * n; at >= 0; at -= n {
		_, high := x.split(at)
		block, _ := high.split(n)
		var digit Nat
		digit, rest = divideBlock(total(rest.raised(n), block), y)
		copy(quotient[at:], digit.words)
	}
	return trimmed(quotient), rest
}

// divideBlock is divide where the quotient has no more words than y: its upper half is found first, then its lower one.
func divideBlock(x, y Nat) (Nat, Nat) {
	extra := len(x.words) - len(y.words)
	if extra < splitQuotient {
		return plainQuotient(x, y)
	}
	half := extra / 2
	high, rest := divideHalf(x, y, half, half)
	low, rest := divideHalf(rest, y, half, 0)
	return total(high.raised(half), low), rest
}

// divideHalf divides by y with at words of noughts below it. It guesses by y without its half lowest words, and mends the guess by these; it mends at most twice, as y's highest bit is set.
func divideHalf(x, y Nat, half, at int) (Nat, Nat) {
	yLow, yHigh := y.split(half)
	xLow, xHigh := x.split(half + at)
	guess, rest := divideBlock(xHigh, yHigh)
	rest = total(rest.raised(half+at), xLow)
	owed := guess.Mul(yLow).raised(at)
	for rest.Cmp(owed) < 0 {
		guess = guess.less(Of(1))
		rest = rest.Add(y.raised(at))
	}
	return guess, rest.less(owed)
}

// plainQuotient is divide digit by digit, as on paper.
func plainQuotient(x, y Nat) (Nat, Nat) {
	n := len(y.words)
	if len(x.words) < n {
		return Nat{}, x
	}
	rest := make([]uint64, len(x.words)+1)
	copy(rest, x.words)
	quotient := make([]uint64, len(rest)-n)
	for at := len(quotient) - 1; at >= 0; at-- {
		quotient[at] = takeDigit(rest[at:at+n+1], y.words)
	}
	return trimmed(quotient), trimmed(rest)
}

// takeDigit is the one digit of rest / y, rest having a word more than y and being below y with a nought behind it; it leaves in rest what is left.
func takeDigit(rest, y []uint64) uint64 {
	n := len(y)
	digit := guessDigit(rest[n-2:], y[n-2:])
	if borrow := subProduct(rest, y, digit); borrow > rest[n] {
		digit--
		addWords(rest[:n], y)
	}
	rest[n] = 0
	return digit
}

// guessDigit is the digit by the three highest words of rest and the two of y: the true one, or one more.
func guessDigit(rest, y []uint64) uint64 {
	if rest[2] >= y[1] {
		return math.MaxUint64
	}
	digit, left := bits.Div64(rest[2], rest[1], y[1])
	high, low := bits.Mul64(digit, y[0])
	for high > left || high == left && low > rest[0] {
		digit--
		var carry uint64
		if left, carry = bits.Add64(left, y[1], 0); carry != 0 {
			break
		}
		low, carry = bits.Sub64(low, y[0], 0)
		high -= carry
	}
	return digit
}
