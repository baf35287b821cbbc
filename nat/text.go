package nat

import (
	"math/bits"

	"millrace/api"
)

// A chunk is as many decimal digits as go into a word.
const (
	chunkDigits = 19
	chunkBound  = 10_000_000_000_000_000_000
)

// Up to so many words a number's digits are found chunk by chunk; a longer one is halved first.
const plainText = 40

// Parse is the number of decimal digits.
func Parse(s string) (Nat, bool) {
	if len(s) == 0 || len(s) > api.MaxDigits {
		return Nat{}, false
	}
	var words []uint64
	for i := range len(s) {
		if s[i] < '0' || s[i] > '9' {
			return Nat{}, false
		}
		words = timesTen(words, uint64(s[i]-'0'))
	}
	return trimmed(words), true
}

// timesTen makes words ten times as much, and digit more.
func timesTen(words []uint64, digit uint64) []uint64 {
	carry := digit
	for i, word := range words {
		high, low := bits.Mul64(word, 10)
		var c uint64
		words[i], c = bits.Add64(low, carry, 0)
		carry = high + c
	}
	if carry != 0 {
		words = append(words, carry)
	}
	return words
}

// Text is x's decimal digits.
func (x Nat) Text() string {
	// log10(2) is a little below 0.30103.
	out := make([]byte, x.Len()*30103/100000+1)
	fill(out, x, chunkPowers(x))
	ahead := 0
	for ahead < len(out)-1 && out[ahead] == '0' {
		ahead++
	}
	return string(out[ahead:])
}

// chunkPowers is 10^19, and its square, and that one's, as far as they may help to halve x.
func chunkPowers(x Nat) []Nat {
	if len(x.words) <= plainText {
		return nil
	}
	power := Of(chunkBound)
	powers := []Nat{power}
	for 2*len(power.words)-1 <= len(x.words) {
		power = power.Mul(power)
		powers = append(powers, power)
	}
	return powers
}

// fill writes x's digits into all of out, with noughts ahead.
func fill(out []byte, x Nat, powers []Nat) {
	if len(x.words) <= plainText {
		fillPlain(out, x)
		return
	}
	n := reached(powers, x.Cmp)
	high, low, _ := x.DivMod(powers[n-1])
	cut := len(out) - chunkDigits<<(n-1)
	fill(out[:cut], high, powers)
	fill(out[cut:], low, powers)
}

func fillPlain(out []byte, x Nat) {
	words := make([]uint64, len(x.words))
	copy(words, x.words)
	for end := len(out); end > 0; end -= chunkDigits {
		chunk := divideByWord(words, chunkBound)
		fillChunk(out[max(0, end-chunkDigits):end], chunk)
	}
}

func fillChunk(out []byte, chunk uint64) {
	for i := len(out) - 1; i >= 0; i-- {
		out[i] = byte('0' + chunk%10)
		chunk /= 10
	}
}
