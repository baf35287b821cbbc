package rat_test

import (
	"math"
	"math/big"
	"testing"

	"millrace/nat"
	"millrace/rat"
)

// 2.8

func TestBetweenExamples(t *testing.T) {
	for _, c := range []struct {
		p, q, u, v int
		want       string
	}{
		{3, 10, 7, 20, "1/3"}, {1, 2, 3, 1, "1/1"}, {5, 7, 5, 7, "5/7"},
		{0, 1, 0, 1, "0/1"}, {0, 1, 1, 9, "0/1"}, {0, 1, 5, 1, "0/1"}, {2, 1, 5, 1, "2/1"}, {2, 1, 5, 2, "2/1"}, {5, 2, 3, 1, "3/1"},
		{1, 9, 1, 8, "1/8"}, {2, 5, 3, 5, "1/2"}, {1, 3, 2, 3, "1/2"}, {3, 2, 5, 2, "2/1"}, {7, 3, 8, 3, "5/2"},
		{355, 113, 22, 7, "22/7"}, {314, 100, 315, 100, "22/7"}, {3141, 1000, 3142, 1000, "245/78"},
		{1, math.MaxInt, 1, math.MaxInt - 1, "1/9223372036854775806"},
		{math.MaxInt - 1, 1, math.MaxInt, 1, "9223372036854775806/1"},
		{math.MaxInt, 2, math.MaxInt, 1, "4611686018427387904/1"},
	} {
		r, s := small(t, c.p, c.q), small(t, c.u, c.v)
		is(t, "Between", rat.Between(r, s), c.want)
		is(t, "Between, the other way round", rat.Between(s, r), c.want)
	}
}

// searched is what Between is by its words: denominator by denominator the least numerator that is not below the stretch.
func searched(low, high *big.Rat) *big.Rat {
	for q := int64(1); ; q++ {
		up := new(big.Rat).Mul(low, big.NewRat(q, 1))
		p, rest := new(big.Int).DivMod(up.Num(), up.Denom(), new(big.Int))
		if rest.Sign() != 0 {
			p.Add(p, big.NewInt(1))
		}
		if x := new(big.Rat).SetFrac(p, big.NewInt(q)); x.Cmp(high) <= 0 {
			return x
		}
	}
}

func TestBetweenOfSmallOnes(t *testing.T) {
	var l []*big.Rat
	for q := int64(1); q <= 13; q++ {
		for p := range int64(3*q + 1) {
			if x := big.NewRat(p, q); x.Denom().Int64() == q {
				l = append(l, x)
			}
		}
	}
	for i, x := range l {
		same(t, "Between one and the same", rat.Between(of(t, x), of(t, x)), x)
		for _, y := range l[:i] {
			low, high := x, y
			if low.Cmp(high) > 0 {
				low, high = high, low
			}
			want := searched(low, high)
			same(t, "Between", rat.Between(of(t, x), of(t, y)), want)
			same(t, "Between", rat.Between(of(t, y), of(t, x)), want)
		}
	}
}

// simplest fails if x is not the answer for low and high. x lies between them, and it is the least one with the least denominator just if the two fractions next to it that have lesser denominators lie outside (where x is whole: if one less does).
func simplest(t *testing.T, x rat.Rat, low, high *big.Rat) {
	t.Helper()
	above, below := x.Parts()
	p, q := new(big.Int).SetBytes(above.Bytes()), new(big.Int).SetBytes(below.Bytes())
	got := new(big.Rat).SetFrac(p, q)
	same(t, "lowest terms", x, got)
	if got.Cmp(low) < 0 || got.Cmp(high) > 0 {
		t.Fatalf("%s is not from %s to %s", got, low, high)
	}
	one := big.NewInt(1)
	if q.Cmp(one) == 0 {
		if less := new(big.Rat).Sub(got, big.NewRat(1, 1)); less.Cmp(low) >= 0 && less.Sign() >= 0 {
			t.Fatalf("%s is not the least whole number from %s to %s", got, low, high)
		}
		return
	}
	lowerQ := new(big.Int).ModInverse(p, q)
	lowerP := new(big.Int).Mul(p, lowerQ)
	lowerP.Sub(lowerP, one).Div(lowerP, q)
	lower := new(big.Rat).SetFrac(lowerP, lowerQ)
	upper := new(big.Rat).SetFrac(new(big.Int).Sub(p, lowerP), new(big.Int).Sub(q, lowerQ))
	if lower.Cmp(low) >= 0 || upper.Cmp(high) <= 0 {
		t.Fatalf("from %s to %s: %s, but %s and %s are simpler", low, high, got, lower, upper)
	}
}

func asksSimplest(t *testing.T, low, high *big.Rat) {
	t.Helper()
	if low.Cmp(high) > 0 {
		low, high = high, low
	}
	x := rat.Between(of(t, low), of(t, high))
	simplest(t, x, low, high)
	if y := rat.Between(of(t, high), of(t, low)); text(x) != text(y) {
		t.Fatalf("%s one way round, %s the other", text(x), text(y))
	}
}

// TestBetweenOfLongOnes: stretches from wide to as narrow as they may be, so that from none to very many whole parts are shared.
func TestBetweenOfLongOnes(t *testing.T) {
	var n noise = 23
	for range 1500 {
		x := n.fraction(1 + n.below(300))
		width := new(big.Rat).SetFrac(n.number(1+n.below(20)), new(big.Int).Lsh(big.NewInt(1), uint(n.below(700))))
		asksSimplest(t, x, new(big.Rat).Add(x, width))
		asksSimplest(t, x, n.fraction(1+n.below(300)))
	}
	for _, x := range samples() {
		same(t, "Between one and the same", rat.Between(of(t, x), of(t, x)), x)
		for _, y := range samples() {
			asksSimplest(t, x, y)
		}
	}
}

// continued is the continued fraction of these whole parts.
func continued(parts []int64) *big.Rat {
	x := new(big.Rat).SetInt64(parts[len(parts)-1])
	for i := len(parts) - 2; i >= 0; i-- {
		x.Inv(x).Add(x, new(big.Rat).SetInt64(parts[i]))
	}
	return x
}

// TestBetweenByWholeParts: what two continued fractions share is kept, and behind it the least whole number between the rests stands.
func TestBetweenByWholeParts(t *testing.T) {
	var n noise = 77
	for range 400 {
		shared := []int64{int64(n.below(3))}
		for range n.below(60) {
			shared = append(shared, int64(1+n.below(1+n.below(50))))
		}
		shared = shared[:len(shared):len(shared)]
		first := int64(1 + n.below(9))
		second := first + 1 + int64(n.below(5))
		x := continued(append(shared, first, 2+int64(n.below(9))))
		y := continued(append(shared, second, 2+int64(n.below(9))))
		want := continued(append(shared, first+1))
		same(t, "Between", rat.Between(of(t, x), of(t, y)), want)
		same(t, "Between", rat.Between(of(t, y), of(t, x)), want)
		same(t, "up to a whole end", rat.Between(of(t, continued(append(shared, first))), of(t, y)), continued(append(shared, first)))
	}
}

// TestBetweenGoesDeep: ratios of Fibonacci's numbers have the most whole parts for their length.
func TestBetweenGoesDeep(t *testing.T) {
	const depth = 30000
	one, two := big.NewInt(1), big.NewInt(1)
	for range depth {
		one, two = two, new(big.Int).Add(one, two)
	}
	three := new(big.Int).Add(one, two)
	four := new(big.Int).Add(two, three)
	x, y := new(big.Rat).SetFrac(two, one), new(big.Rat).SetFrac(four, three)
	low, high := x, y
	if low.Cmp(high) > 0 {
		low, high = high, low
	}
	simplest(t, rat.Between(of(t, x), of(t, y)), low, high)
	same(t, "Between one and the same", rat.Between(of(t, y), of(t, y)), y)
}

// TestBetweenOfUnlikeLengths: a long whole part, or a long rest, beside short ones.
func TestBetweenOfUnlikeLengths(t *testing.T) {
	long := new(big.Int).Lsh(big.NewInt(1), 5000)
	wide := new(big.Rat).SetInt(long)
	tiny := new(big.Rat).Inv(wide)
	half := big.NewRat(1, 2)
	for _, x := range []*big.Rat{new(big.Rat), tiny, half, wide, new(big.Rat).Add(wide, tiny), new(big.Rat).Add(half, tiny), new(big.Rat).Sub(half, tiny), new(big.Rat).Add(wide, half), new(big.Rat).Sub(wide, tiny)} {
		for _, y := range []*big.Rat{tiny, half, wide, new(big.Rat).Add(tiny, tiny), new(big.Rat).Add(half, tiny), new(big.Rat).Sub(wide, half)} {
			if x.Cmp(y) != 0 {
				asksSimplest(t, x, y)
			}
		}
	}
	r, _ := rat.From(natOf(long), nat.Of(1))
	is(t, "from 0 to 2^5000", rat.Between(rat.Rat{}, r), "0/1")
}
