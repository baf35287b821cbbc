package nat

import "millrace/api"

// Left is x * 2^n.
func (x Nat) Left(n int) (Nat, bool) {
	switch {
	case len(x.words) == 0:
		return Nat{}, true
	case n <= -x.Len(): // ahead of -n: the least int has no opposite
		return Nat{}, true
	case n < 0:
		return x.Right(-n), true
	case n > api.MaxShift:
		return Nat{}, false
	}
	return x.up(n), true
}

// Right is x / 2^n, rounded down.
func (x Nat) Right(n int) Nat {
	switch {
	case n <= 0:
		return x
	case n >= x.Len():
		return Nat{}
	}
	from, shift := n/wordBits, n%wordBits
	words := make([]uint64, len(x.words)-from)
	for i := range words {
		words[i] = x.words[from+i] >> shift
		if from+i+1 < len(x.words) {
			words[i] |= x.words[from+i+1] << (wordBits - shift)
		}
	}
	return trimmed(words)
}

// up is x * 2^n for n from 0 on, however far.
func (x Nat) up(n int) Nat {
	if n == 0 || len(x.words) == 0 {
		return x
	}
	from, shift := n/wordBits, n%wordBits
	words := make([]uint64, from+len(x.words)+1)
	for i, word := range x.words {
		words[from+i] |= word << shift
		words[from+i+1] = word >> (wordBits - shift)
	}
	return trimmed(words)
}

// raised is x with n words of noughts below it.
func (x Nat) raised(n int) Nat {
	return x.up(n * wordBits)
}

// split is x's n lowest words as a number, and the words above them as another.
func (x Nat) split(n int) (low, high Nat) {
	if len(x.words) <= n {
		return x, Nat{}
	}
	return trimmed(x.words[:n]), Nat{x.words[n:]}
}
