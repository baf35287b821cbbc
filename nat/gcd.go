package nat

import "math/bits"

// Gcd is the greatest number that divides both.
func Gcd(x, y Nat) Nat {
	if x.Cmp(y) < 0 {
		x, y = y, x
	}
	if len(y.words) == 0 {
		return x
	}
	twos := sharedTwos(x.words, y.words)
	return divisor(x.Right(twos), y.Right(twos)).up(twos)
}

// sharedTwos is how many noughts all the lists have at their low ends, as binary digits.
func sharedTwos(lists ...[]uint64) int {
	longest := 0
	for _, list := range lists {
		longest = max(longest, len(list))
	}
	for i := range longest {
		var seen uint64
		for _, list := range lists {
			if i < len(list) {
				seen |= list[i]
			}
		}
		if seen != 0 {
			return i*wordBits + bits.TrailingZeros64(seen)
		}
	}
	return 0
}

// divisor is Gcd for a y that is neither above x nor 0. It makes many steps of Euclid's at once, where the highest words alone tell them.
func divisor(x, y Nat) Nat {
	for len(y.words) > 1 {
		s := foresee(highest(x, y))
		if s.xOfY == 0 {
			_, rest, _ := x.DivMod(y)
			x, y = y, rest
			continue
		}
		x, y = s.taken(x, y)
	}
	if len(y.words) == 0 {
		return x
	}
	words := make([]uint64, len(x.words))
	copy(words, x.words)
	return Of(wordDivisor(y.words[0], divideByWord(words, y.words[0])))
}

func wordDivisor(x, y uint64) uint64 {
	for y != 0 {
		x, y = y, x%y
	}
	return x
}

// highest is x's 64 highest bits, and those of y that stand at the same places.
func highest(x, y Nat) (uint64, uint64) {
	n := len(x.words)
	shift := bits.LeadingZeros64(x.words[n-1])
	return window(x.words, n-1, shift), window(y.words, n-1, shift)
}

// window is the word at a place, moved up by shift with the word below it moved in; noughts stand beyond the words' end.
func window(words []uint64, at, shift int) uint64 {
	var high, low uint64
	if at < len(words) {
		high = words[at]
	}
	if at-1 < len(words) {
		low = words[at-1]
	}
	return high<<shift | low>>(wordBits-shift)
}

// steps is what some of Euclid's steps make of x and y: x becomes xOfX x and xOfY y, the one less the other, and y likewise. Which of the two is taken from which turns with each step: swapped says that for the new x it is y's part from x's.
type steps struct {
	xOfX, xOfY, yOfX, yOfY uint64
	swapped                bool
}

// foresee makes the steps that are the same whatever stands below the words x and y (Collins's condition); it is one step behind with what it tells, as the condition is on the step that follows.
func foresee(x, y uint64) steps {
	s := steps{yOfX: 1}
	var nextOfX, nextOfY uint64 = 0, 1
	for y >= nextOfY && x-y >= s.yOfY+nextOfY {
		q := x / y
		x, y = y, x%y
		s.xOfX, s.yOfX, nextOfX = s.yOfX, nextOfX, s.yOfX+q*nextOfX
		s.xOfY, s.yOfY, nextOfY = s.yOfY, nextOfY, s.yOfY+q*nextOfY
		s.swapped = !s.swapped
	}
	return s
}

// taken is x and y behind the steps.
func (s steps) taken(x, y Nat) (Nat, Nat) {
	if s.swapped {
		return difference(x, s.xOfX, y, s.xOfY), difference(y, s.yOfY, x, s.yOfX)
	}
	return difference(y, s.xOfY, x, s.xOfX), difference(x, s.yOfX, y, s.yOfY)
}

// difference is x a - y b, where that is known to be neither below 0 nor longer than the longer one of x and y.
func difference(x Nat, a uint64, y Nat, b uint64) Nat {
	words := make([]uint64, max(len(x.words), len(y.words))+1)
	words[len(x.words)] = addProduct(words, x.words, a)
	borrow := subProduct(words, y.words, b)
	subWords(words[len(y.words):], []uint64{borrow})
	return trimmed(words)
}
