package rat

import "millrace/nat"

// Between is the fraction of the least denominator between two, and of those the least.
//
// Where no whole number lies between the two, they and all between them have one whole part; what is left of them beside it, turned round, is asked the same. A call takes off whole parts till a denominator is half as long, and then calls itself on what is left: with a call for each of them the stack could grow beyond its bound.
func Between(r, s Rat) Rat {
	if r.Cmp(s) == 0 {
		return r
	}
	ahead := noTerms()
	_, q := r.Parts()
	for half := q.Len() / 2; q.Len() > half; _, q = r.Parts() {
		rFloor, rLeft := r.turned()
		sFloor, sLeft := s.turned()
		if rFloor.Cmp(sFloor) != 0 || isZero(rLeft.above) || isZero(sLeft.above) {
			return ahead.before(leastWhole(r, s))
		}
		ahead = ahead.with(rFloor)
		r, s = rLeft, sLeft
	}
	return ahead.before(Between(r, s))
}

// turned is r's whole part, and what is left beside it, turned round; 0, if nothing is left.
func (r Rat) turned() (nat.Nat, Rat) {
	floor, rest := r.split()
	if isZero(rest) {
		return floor, Rat{}
	}
	return floor, Rat{r.below, rest}
}

// leastWhole is the least whole number that is not below both.
func leastWhole(r, s Rat) Rat {
	least, other := r.Ceil(), s.Ceil()
	if other.Cmp(least) < 0 {
		least = other
	}
	return inLowest(least, nat.Of(1))
}

// terms are the first whole parts of a continued fraction: with y behind them it is (a y + b) / (c y + d). As a d and b c differ by 1, it is in lowest terms if y is.
type terms struct{ a, b, c, d nat.Nat }

func noTerms() terms {
	return terms{a: nat.Of(1), d: nat.Of(1)}
}

// with is the terms and one more behind them.
func (t terms) with(term nat.Nat) terms {
	return terms{t.a.Mul(term).Add(t.b), t.a, t.c.Mul(term).Add(t.d), t.c}
}

// before is the fraction that has y behind the terms.
func (t terms) before(y Rat) Rat {
	p, q := y.Parts()
	return inLowest(t.a.Mul(p).Add(t.b.Mul(q)), t.c.Mul(p).Add(t.d.Mul(q)))
}
