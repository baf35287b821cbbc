package gauge_test

import (
	"math"
	"math/big"
	"slices"
	"testing"

	"millrace/api"
	"millrace/gauge"
	"millrace/rat"
)

// shuffled is the same list in another order.
func shuffled(n *noise, l []departure) []departure {
	l = slices.Clone(l)
	for i := range l {
		j := n.below(i + 1)
		l[i], l[j] = l[j], l[i]
	}
	return l
}

// 18.7: the order in which departures are added makes nothing, nor do questions in between, nor what is refused.
func TestOrderMakesNothing(t *testing.T) {
	n := noise(187)
	for range 200 {
		l, shares := n.departures(1+n.below(60)), of(t, n.shares())
		a, b := told(t, l), gauge.New()
		for _, d := range shuffled(&n, l) {
			b.Delays()
			b.Mean()
			b.Tell(n.below(9), shares)
			b.Quantile(n.below(9), 9)
			answers(t, "Add", b.Add(-1-n.below(9), d.size), api.ErrArg)
			answers(t, "Add", b.Add(d.delay, -n.below(9)), api.ErrSize)
			answers(t, "Add", b.Add(d.delay, d.size), api.OK)
		}
		agrees(t, "the other order", b, l)
		passed := n.upTo(1 << 40)
		same(t, "Tell", b.Tell(passed, shares), a.Tell(passed, shares))
		for range 10 {
			p, q := n.parts(len(l))
			x, _ := a.Quantile(p, q)
			y, ok := b.Quantile(p, q)
			if x != y || !ok {
				t.Fatalf("Quantile(%d, %d): %d in one order, %d in the other", p, q, x, y)
			}
		}
	}
}

// 18.7: asked again, a gauge answers the same.
func TestAskedAgain(t *testing.T) {
	n := noise(1870)
	g := told(t, n.departures(500))
	first, list := g.Tell(1000, nil), g.Delays()
	for range 50 {
		same(t, "Tell again", g.Tell(1000, nil), first)
		if l := g.Delays(); !slices.Equal(l, list) {
			t.Fatalf("Delays again: %v, at first %v", l, list)
		}
	}
}

// 18.7: from the least delay to the greatest.
func TestQuantilesBetweenTheEnds(t *testing.T) {
	n := noise(1871)
	for range 300 {
		l := n.departures(1 + n.below(60))
		g, ranked := told(t, l), model(l).ranked()
		for range 10 {
			q := n.upTo(1 << 31)
			least, _ := g.Quantile(0, q)
			greatest, _ := g.Quantile(q, q)
			if least != ranked[0] || greatest != ranked[len(ranked)-1] {
				t.Fatalf("Quantiles of 0 and all of %d: %d and %d, want %d and %d", q, least, greatest, ranked[0], ranked[len(ranked)-1])
			}
		}
	}
}

// 18.7: a quantile does not fall where its part rises.
func TestQuantilesRise(t *testing.T) {
	n := noise(1872)
	for range 2000 {
		g := told(t, n.departures(1+n.below(40)))
		p, q := n.parts(40)
		r, s := n.parts(40)
		if p*s > r*q {
			p, q, r, s = r, s, p, q
		}
		low, _ := g.Quantile(p, q)
		high, _ := g.Quantile(r, s)
		if low > high || p*s == r*q && low != high {
			t.Fatalf("Quantile(%d, %d) is %d, Quantile(%d, %d) is %d", p, q, low, r, s, high)
		}
	}
}

// 18.7: at least n p / q of the delays are at most the quantile, and fewer are below it.
func TestQuantileHasItsPart(t *testing.T) {
	n := noise(1873)
	first := 0
	for range 3000 {
		l := n.departures(1 + n.below(40))
		p, q := n.parts(len(l))
		delay, ok := told(t, l).Quantile(p, q)
		if !ok {
			t.Fatalf("Quantile(%d, %d) of %d delays says false", p, q, len(l))
		}
		below, upTo := 0, 0
		for _, d := range l {
			if d.delay < delay {
				below++
			}
			if d.delay <= delay {
				upTo++
			}
		}
		part := times(count(len(l)), big.NewRat(int64(p), int64(q)))
		if part.Cmp(count(1)) <= 0 {
			first++
			if below != 0 {
				t.Fatalf("Quantile(%d, %d) is %d, and %d are below it", p, q, delay, below)
			}
		} else if count(below).Cmp(part) >= 0 {
			t.Fatalf("Quantile(%d, %d) is %d, and %d of %d are below it", p, q, delay, below, len(l))
		}
		if count(upTo).Cmp(part) < 0 {
			t.Fatalf("Quantile(%d, %d) is %d, and %d of %d are at most it", p, q, delay, upTo, len(l))
		}
	}
	if first < 100 || first > 2900 {
		t.Fatalf("the first place was met %d times", first)
	}
}

// index is Jain's of shares that are not all 0.
func index(t *testing.T, l []*big.Rat) *big.Rat {
	t.Helper()
	r, ok := gauge.Jain(of(t, l))
	x, good := new(big.Rat).SetString(text(r))
	if !ok || !good {
		t.Fatalf("Jain of %v: %s %v", l, text(r), ok)
	}
	return x
}

// 18.8: from 1 divided by how many there are to 1, and 1 just if all are the same.
func TestJainsBounds(t *testing.T) {
	n := noise(188)
	met := map[bool]int{}
	for range 2000 {
		l := n.shares()
		if _, ok := jain(l); !ok {
			continue
		}
		equal := true
		for _, x := range l {
			equal = equal && x.Cmp(l[0]) == 0
		}
		met[equal]++
		x := index(t, l)
		if x.Cmp(count(1)) > 0 || (x.Cmp(count(1)) == 0) != equal {
			t.Fatalf("Jain of %v: %s", l, x)
		}
		if x.Cmp(big.NewRat(1, int64(len(l)))) < 0 {
			t.Fatalf("Jain of %d shares: %s", len(l), x)
		}
	}
	if met[true] < 50 || met[false] < 50 {
		t.Fatalf("shares that are the same and not: %v", met)
	}
}

// 18.8: both bounds are met by any number of shares.
func TestJainsBoundsAreMet(t *testing.T) {
	for number := 1; number <= 64; number++ {
		all, one := make([]*big.Rat, number), make([]*big.Rat, number)
		for i := range all {
			all[i], one[i] = big.NewRat(7, 3), new(big.Rat)
		}
		one[number/2] = big.NewRat(7, 3)
		if x := index(t, all); x.Cmp(count(1)) != 0 {
			t.Fatalf("%d that are the same: %s", number, x)
		}
		if x := index(t, one); x.Cmp(big.NewRat(1, int64(number))) != 0 {
			t.Fatalf("one of %d: %s", number, x)
		}
	}
}

// 18.8: the same for all shares times one fraction above 0, and in any order.
func TestJainOfShares(t *testing.T) {
	n := noise(1880)
	for range 500 {
		l := n.shares()
		if _, ok := jain(l); !ok {
			continue
		}
		by := big.NewRat(int64(n.upTo(1<<40)), int64(n.upTo(1<<40)))
		scaled := make([]*big.Rat, len(l))
		for i, x := range l {
			scaled[len(l)-1-i] = times(x, by)
		}
		if x, y := index(t, l), index(t, scaled); x.Cmp(y) != 0 {
			t.Fatalf("Jain of %v: %s, times %s: %s", l, x, by, y)
		}
	}
}

// 18.9: Half is at most Tail, Tail at most Greatest; Mean is at most Greatest. (A mean that is below the greatest by little may be told as the same number.)
func TestNumbersInOrder(t *testing.T) {
	n := noise(189)
	for range 1000 {
		x := told(t, n.departures(n.below(300))).Tell(1, nil)
		if x.Half > x.Tail || x.Tail > x.Greatest || x.Mean > x.Greatest {
			t.Fatalf("Tell: %v", x)
		}
	}
	x := told(t, delays(math.MaxInt, math.MaxInt-1, math.MaxInt)).Tell(1, nil)
	if x.Half > x.Tail || x.Tail > x.Greatest || x.Mean > x.Greatest {
		t.Fatalf("Tell: %v", x)
	}
}

// 18.10: whatever is handed in, calls end and none panics.
func TestCallsOfAllEdges(t *testing.T) {
	edges := []int{math.MinInt, math.MinInt + 1, -1 << 31, -1, 0, 1, 2, 99, 100, 65535, 65536, 65537, 1<<31 - 1, 1 << 31, 1<<31 + 1, 1<<62 - 1, 1 << 62, math.MaxInt - 1, math.MaxInt}
	g, m := gauge.New(), model{}
	for range 2 {
		for _, x := range edges {
			for _, y := range edges {
				quantile(t, "edges", g, m, x, y)
			}
			same(t, "edges", g.Tell(x, nil), m.tell(x, nil))
		}
		for _, x := range edges {
			for _, y := range edges {
				if g.Add(x, y) == api.OK {
					m = append(m, departure{x, y})
				}
			}
		}
		agrees(t, "edges", g, m)
	}
}

// 18.10: a list that is told is new memory, spare room too.
func TestDelaysAreNew(t *testing.T) {
	l := delays(4, 1, 4, 100, 0)
	g := told(t, l)
	one, other := g.Delays(), g.Delays()
	for i := range one[:cap(one)] {
		one[:cap(one)][i] = -7
	}
	if want := model(l).delays(); !slices.Equal(other, want) {
		t.Fatalf("a list that was told ahead of that: %v, want %v", other, want)
	}
	agrees(t, "behind that", g, l)
	answers(t, "Add", g.Add(4, 1), api.OK)
	if want := model(l).delays(); !slices.Equal(other, want) {
		t.Fatalf("a list that was told ahead of an Add: %v, want %v", other, want)
	}
	empty := gauge.New()
	none := empty.Delays()
	_ = append(none[:cap(none)], 1, 2, 3)
	for i := range none[:cap(none)] {
		none[:cap(none)][i] = -7
	}
	agrees(t, "nothing still", empty, nil)
}

// 18.10: what is handed in is not changed, nor the spare room behind it, and not kept.
func TestSharesAreLeftAlone(t *testing.T) {
	n := noise(1810)
	for range 100 {
		all := of(t, append(n.shares(), wholes(3, 1, 2, 0, 5)...))
		ahead := make([]string, len(all))
		for i, x := range all {
			ahead[i] = text(x)
		}
		some := all[:len(all)-3]
		g := told(t, delays(4, 1, 4))
		first, there := gauge.Jain(some)
		x := g.Tell(10, some)
		for i, r := range all {
			if text(r) != ahead[i] {
				t.Fatalf("the share number %d: %s, was %s", i, text(r), ahead[i])
			}
		}
		was, whole := text(first), slices.Clone(some)
		for i := range all {
			all[i] = rat.Rat{}
		}
		again, ok := gauge.Jain(whole)
		if text(first) != was || text(again) != was || ok != there {
			t.Fatalf("Jain: %s, at first %s", text(again), was)
		}
		same(t, "Tell", g.Tell(10, whole), x)
		if y := g.Tell(10, nil); y.Fairness != 1 {
			t.Fatalf("Fairness without shares behind some: %v", y.Fairness)
		}
	}
}
