package gauge_test

import (
	"math"
	"math/big"
	"slices"
	"testing"

	"millrace/api"
	"millrace/gauge"
)

// delays tells departures of one byte each, of these delays.
func delays(l ...int) []departure {
	var out []departure
	for _, delay := range l {
		out = append(out, departure{delay, 1})
	}
	return out
}

// 18.1: a new one was told of nothing.
func TestNewKnowsNothing(t *testing.T) {
	g := gauge.New()
	agrees(t, "New", g, nil)
	if n, ok := g.Quantile(1, 2); n != 0 || ok {
		t.Fatalf("Quantile of nothing: %d %v", n, ok)
	}
	if l := g.Delays(); len(l) != 0 {
		t.Fatalf("Delays of nothing: %v", l)
	}
	same(t, "Tell of nothing", g.Tell(0, nil), api.Gauge{Fairness: 1})
	same(t, "Tell of nothing in a while", g.Tell(100, nil), api.Gauge{Fairness: 1})
}

// 18.1: two have nothing in common.
func TestGaugesApart(t *testing.T) {
	a, b := gauge.New(), gauge.New()
	answers(t, "Add", a.Add(4, 10), api.OK)
	agrees(t, "the first one", a, model{{4, 10}})
	agrees(t, "the other one", b, nil)
	answers(t, "Add", b.Add(4, 7), api.OK)
	answers(t, "Add", b.Add(5, 7), api.OK)
	agrees(t, "the first one still", a, model{{4, 10}})
	agrees(t, "the other one", b, model{{4, 7}, {5, 7}})
}

// 18.1: the delay is looked at ahead of the size, and what is refused is not counted.
func TestAdd(t *testing.T) {
	good := []int{0, 1, 2, 1 << 31, 1 << 62, math.MaxInt}
	bad := []int{math.MinInt, math.MinInt + 1, -1 << 31, -2, -1}
	goodSizes := []int{1, 2, 1500, 65535, 65536}
	badSizes := []int{math.MinInt, -65536, -1, 0, 65537, 1 << 31, math.MaxInt}
	g, m := gauge.New(), model{}
	add := func(delay, size int, want api.Errno) {
		t.Helper()
		answers(t, "Add", g.Add(delay, size), want)
		if want == api.OK {
			m = append(m, departure{delay, size})
		}
		if got := g.Count(); got != (api.Count{Packets: len(m), Bytes: m.bytes()}) {
			t.Fatalf("Add(%d, %d): Count %v", delay, size, got)
		}
	}
	for range 2 {
		for _, size := range slices.Concat(badSizes, goodSizes) {
			for _, delay := range bad {
				add(delay, size, api.ErrArg)
			}
		}
		for _, delay := range good {
			for _, size := range badSizes {
				add(delay, size, api.ErrSize)
			}
		}
		agrees(t, "behind what was refused", g, m)
		for _, delay := range good {
			for _, size := range goodSizes {
				add(delay, size, api.OK)
			}
		}
		agrees(t, "behind what was counted", g, m)
	}
}

// 18.1 to 18.4, 18.6: the chapter's example.
func TestExample(t *testing.T) {
	g := gauge.New()
	for _, x := range []struct {
		delay, size int
		e           api.Errno
	}{{4, 10, api.OK}, {1, 10, api.OK}, {4, 5, api.OK}, {-1, 1, api.ErrArg}, {1, 0, api.ErrSize}} {
		answers(t, "Add", g.Add(x.delay, x.size), x.e)
	}
	if got := g.Count(); got != (api.Count{Packets: 3, Bytes: 25}) {
		t.Fatalf("Count: %v", got)
	}
	mean, ok := g.Mean()
	is(t, "Mean", mean, ok, count(3), true)
	if l := g.Delays(); !slices.Equal(l, []int{0, 1, 0, 2}) {
		t.Fatalf("Delays: %v", l)
	}
	for _, x := range []struct {
		p, q, want int
		ok         bool
	}{{1, 2, 4, true}, {1, 3, 1, true}, {0, 1, 1, true}, {1, 1, 4, true}, {2, 1, 0, false}} {
		if n, ok := g.Quantile(x.p, x.q); n != x.want || ok != x.ok {
			t.Fatalf("Quantile(%d, %d): %d %v", x.p, x.q, n, ok)
		}
	}
	same(t, "Tell", g.Tell(100, of(t, wholes(1, 3))), api.Gauge{Mean: 3, Greatest: 4, Half: 4, Tail: 4, Share: 0.25, Fairness: 0.8})
}

// 18.2: the mean is exact, also where it is no whole number, and where the sum is no int.
func TestMean(t *testing.T) {
	for _, c := range []struct {
		delays []int
		want   string
	}{
		{[]int{0}, "0/1"},
		{[]int{0, 0, 0}, "0/1"},
		{[]int{0, 1}, "1/2"},
		{[]int{1, 1, 2}, "4/3"},
		{[]int{math.MaxInt}, "9223372036854775807/1"},
		{[]int{math.MaxInt, 0}, "9223372036854775807/2"},
		{[]int{math.MaxInt, math.MaxInt}, "9223372036854775807/1"},
		{[]int{math.MaxInt, math.MaxInt, math.MaxInt, math.MaxInt - 1}, "36893488147419103227/4"},
		{[]int{1 << 62, 1 << 62, 1 << 62, 1}, "13835058055282163713/4"},
	} {
		mean, ok := told(t, delays(c.delays...)).Mean()
		if text(mean) != c.want || !ok {
			t.Errorf("Mean of %v: %s %v, want %s", c.delays, text(mean), ok, c.want)
		}
	}
}

// 18.2: however long the sum gets.
func TestMeanOfManyGreatOnes(t *testing.T) {
	g, sum := gauge.New(), new(big.Rat)
	for i := range 5000 {
		answers(t, "Add", g.Add(math.MaxInt-i, 1), api.OK)
		sum.Add(sum, count(math.MaxInt-i))
	}
	mean, ok := g.Mean()
	is(t, "Mean", mean, ok, sum.Quo(sum, count(5000)), true)
}

// 18.3: the first place that is not below n p / q, by all parts of few delays.
func TestQuantileOfEveryPart(t *testing.T) {
	for _, m := range []model{nil, delays(7), delays(9, 2), delays(3, 3, 3), delays(5, 0, 8), delays(4, 1, 4, 1, 6), delays(0, 0, 1, 2, 3, 5, 8), delays(10, 9, 8, 7, 6, 5, 4, 3, 2, 1)} {
		g := told(t, m)
		for q := -1; q <= 23; q++ {
			for p := -2; p <= q+2; p++ {
				quantile(t, "few delays", g, m, p, q)
			}
		}
	}
}

// 18.3: a part just below a place, at it, and just above it.
func TestQuantileAtItsPlaces(t *testing.T) {
	g := told(t, delays(10, 20, 30, 40))
	for _, x := range []struct{ p, q, want int }{
		{0, 1, 10}, {0, 1 << 31, 10}, {1, 1 << 31, 10}, {249, 1000, 10}, {1, 4, 10}, {251, 1000, 20},
		{499, 1000, 20}, {1, 2, 20}, {501, 1000, 30}, {1 << 30, 1 << 31, 20}, {1<<30 + 1, 1 << 31, 30},
		{3, 4, 30}, {1 << 29 * 3, 1 << 31, 30}, {1<<29*3 + 1, 1 << 31, 40}, {1<<31 - 1, 1 << 31, 40}, {1 << 31, 1 << 31, 40}, {5, 5, 40},
	} {
		if n, ok := g.Quantile(x.p, x.q); n != x.want || !ok {
			t.Errorf("Quantile(%d, %d): %d %v, want %d", x.p, x.q, n, ok, x.want)
		}
	}
}

// 18.3: parts that may not be.
func TestQuantileOfWrongParts(t *testing.T) {
	for _, g := range []*gauge.Gauge{gauge.New(), told(t, delays(4, 1, 4))} {
		for _, x := range [][2]int{
			{0, 0}, {1, 0}, {-1, 0}, {0, -1}, {-1, -1}, {-2, -1}, {1, -1}, {math.MinInt, math.MinInt}, {0, math.MinInt}, {1, math.MinInt},
			{-1, 1}, {-1, 1 << 31}, {math.MinInt, 1}, {math.MinInt, 1 << 31},
			{2, 1}, {101, 100}, {1<<31 + 1, 1 << 31}, {math.MaxInt, 1 << 31}, {math.MaxInt, 1},
			{0, 1<<31 + 1}, {1, 1<<31 + 1}, {1<<31 + 1, 1<<31 + 1}, {0, 1 << 62}, {1, math.MaxInt}, {math.MaxInt, math.MaxInt}, {1 << 62, 1 << 63 >> 1},
		} {
			if n, ok := g.Quantile(x[0], x[1]); n != 0 || ok {
				t.Errorf("Quantile(%d, %d): %d %v", x[0], x[1], n, ok)
			}
		}
	}
}

// 18.3: with many delays the greatest parts are exact still.
func TestQuantileOfManyDelays(t *testing.T) {
	var m model
	for i := range 3000 {
		m = append(m, departure{(i * 7919) % 3000, 1})
	}
	g := told(t, m)
	for place := 1; place <= 3000; place++ {
		if n, ok := g.Quantile(place, 3000); n != place-1 || !ok {
			t.Fatalf("Quantile(%d, 3000): %d %v", place, n, ok)
		}
	}
	n := noise(183)
	for range 100 {
		p, q := n.parts(len(m))
		quantile(t, "many delays", g, m, p, q)
	}
}

// 18.4: from one power of 2 to the next, up to the greatest int.
func TestDelays(t *testing.T) {
	for _, c := range []struct{ delays, want []int }{
		{nil, nil},
		{[]int{0}, []int{1}},
		{[]int{0, 0}, []int{2}},
		{[]int{1}, []int{0, 1}},
		{[]int{2}, []int{0, 0, 1}},
		{[]int{3}, []int{0, 0, 1}},
		{[]int{4}, []int{0, 0, 0, 1}},
		{[]int{7}, []int{0, 0, 0, 1}},
		{[]int{8}, []int{0, 0, 0, 0, 1}},
		{[]int{0, 1, 2, 3, 4, 5, 6, 7, 8}, []int{1, 1, 2, 4, 1}},
		{[]int{9, 0, 9, 0, 9}, []int{2, 0, 0, 0, 3}},
		{[]int{15, 16}, []int{0, 0, 0, 0, 1, 1}},
		{[]int{1000, 1023, 1024}, []int{0, 0, 0, 0, 0, 0, 0, 0, 0, 0, 2, 1}},
	} {
		if l := told(t, delays(c.delays...)).Delays(); !slices.Equal(l, c.want) {
			t.Errorf("Delays of %v: %v, want %v", c.delays, l, c.want)
		}
	}
	for i := range 63 {
		for _, delay := range []int{1 << i, 1<<i + 1<<i - 1} {
			l := told(t, delays(delay, 0)).Delays()
			if len(l) != i+2 || l[0] != 1 || l[i+1] != 1 {
				t.Errorf("Delays of %d and 0: %v", delay, l)
			}
		}
	}
}

// 18.1 to 18.4, 18.6: many departures, asked behind each of some of them.
func TestDeparturesOfAllKinds(t *testing.T) {
	n := noise(18)
	for range 300 {
		l := n.departures(n.below(60))
		g, step := gauge.New(), 1+n.below(20)
		for i, d := range l {
			answers(t, "Add", g.Add(d.delay, d.size), api.OK)
			if i%step == 0 {
				agrees(t, "on the way", g, l[:i+1])
			}
		}
		agrees(t, "at last", g, l)
		for range 20 {
			p, q := n.parts(len(l))
			quantile(t, "any part", g, l, p, q)
		}
	}
}
