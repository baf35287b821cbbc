package gauge

import (
	"millrace/api"
	"millrace/num"
	"millrace/rat"
)

// Tell is all of it as numbers.
func (g *Gauge) Tell(passed int, shares []rat.Rat) api.Gauge {
	// What there is nothing of is 0 beside its false, and so told as it should be.
	ranked := g.ranked()
	mean, _ := g.Mean()
	greatest, _ := g.quantile(ranked, 1, 1)
	half, _ := g.quantile(ranked, 1, 2)
	tail, _ := g.quantile(ranked, 99, 100)
	share, _ := rat.Of(g.count.Bytes, passed)
	fairness, ok := Jain(shares)
	if !ok {
		fairness = whole(1)
	}
	return api.Gauge{
		Mean:     near(mean),
		Greatest: near(whole(greatest)),
		Half:     near(whole(half)),
		Tail:     near(whole(tail)),
		Share:    near(share),
		Fairness: near(fairness),
	}
}

// near is the number nearest to x, which is never beyond them all here: a delay is an int, and an index at most 1.
func near(x rat.Rat) float64 {
	a, _ := num.ToFloat(x)
	return a
}

// whole is n, which is not below 0, as a fraction.
func whole(n int) rat.Rat {
	r, _ := rat.Of(n, 1)
	return r
}

// Jain is the index of fairness of some shares.
func Jain(shares []rat.Rat) (rat.Rat, bool) {
	var squares rat.Rat
	for _, x := range shares {
		squares = squares.Add(x.Mul(x))
	}
	sum := rat.Sum(shares...)
	most, _ := squares.MulInt(len(shares))
	return sum.Mul(sum).Div(most)
}
