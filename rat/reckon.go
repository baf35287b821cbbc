package rat

import "millrace/nat"

// Add is r + s.
func (r Rat) Add(s Rat) Rat {
	c := brought(r, s)
	return c.fraction(c.first.Add(c.second))
}

// Sub is r - s.
func (r Rat) Sub(s Rat) (Rat, bool) {
	c := brought(r, s)
	rest, ok := c.first.Sub(c.second)
	if !ok {
		return Rat{}, false
	}
	return c.fraction(rest), true
}

// common is two fractions brought to their least common denominator, which is own * other: first and second stand above it.
type common struct {
	first, second nat.Nat
	own, other    nat.Nat // what the first denominator has alone, and the whole second one
	shared        nat.Nat // what both denominators have
}

func brought(r, s Rat) common {
	rAbove, rBelow := r.Parts()
	sAbove, sBelow := s.Parts()
	shared := nat.Gcd(rBelow, sBelow)
	own := over(rBelow, shared)
	return common{
		first:  rAbove.Mul(over(sBelow, shared)),
		second: sAbove.Mul(own),
		own:    own,
		other:  sBelow,
		shared: shared,
	}
}

// fraction is above over the common denominator, above being the sum or the difference of first and second. Only a divisor of what both denominators have can divide it and the common one, so the greatest is looked for in that short number.
func (c common) fraction(above nat.Nat) Rat {
	divisor := nat.Gcd(above, c.shared)
	return inLowest(over(above, divisor), c.own.Mul(over(c.other, divisor)))
}

// Mul is r * s.
func (r Rat) Mul(s Rat) Rat {
	rAbove, rBelow := r.Parts()
	sAbove, sBelow := s.Parts()
	// Divided ahead of the products, the numbers stay short.
	left, right := nat.Gcd(rAbove, sBelow), nat.Gcd(sAbove, rBelow)
	p := over(rAbove, left).Mul(over(sAbove, right))
	q := over(rBelow, right).Mul(over(sBelow, left))
	return inLowest(p, q)
}

// Div is r / s.
func (r Rat) Div(s Rat) (Rat, bool) {
	p, q := s.Parts()
	if isZero(p) {
		return Rat{}, false
	}
	return r.Mul(Rat{q, p}), true
}

// MulInt is r * n.
func (r Rat) MulInt(n int) (Rat, bool) {
	s, ok := Of(n, 1)
	if !ok {
		return Rat{}, false
	}
	return r.Mul(s), true
}

// DivInt is r / n.
func (r Rat) DivInt(n int) (Rat, bool) {
	s, ok := Of(1, n)
	if !ok {
		return Rat{}, false
	}
	return r.Mul(s), true
}

// Sum is the sum of all.
func Sum(l ...Rat) Rat {
	var sum Rat
	for _, r := range l {
		sum = sum.Add(r)
	}
	return sum
}
