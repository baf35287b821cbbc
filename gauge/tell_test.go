package gauge_test

import (
	"math"
	"math/big"
	"testing"

	"millrace/api"
	"millrace/gauge"
	"millrace/rat"
)

// 18.5: the index of some shares.
func TestJain(t *testing.T) {
	for _, c := range []struct {
		shares []*big.Rat
		want   *big.Rat
		ok     bool
	}{
		{nil, count(0), false},
		{wholes(0), count(0), false},
		{wholes(0, 0), count(0), false},
		{wholes(0, 0, 0, 0), count(0), false},
		{wholes(1), count(1), true},
		{wholes(7), count(1), true},
		{wholes(1, 3), big.NewRat(4, 5), true},
		{wholes(2, 2, 2), count(1), true},
		{wholes(0, 5), big.NewRat(1, 2), true},
		{wholes(0, 0, 9, 0), big.NewRat(1, 4), true},
		{wholes(1, 2, 3), big.NewRat(6, 7), true},
		{[]*big.Rat{big.NewRat(1, 2), big.NewRat(1, 3)}, big.NewRat(25, 26), true},
		{[]*big.Rat{big.NewRat(1, 7), big.NewRat(3, 7), count(0)}, big.NewRat(8, 15), true},
	} {
		index, ok := gauge.Jain(of(t, c.shares))
		is(t, "Jain", index, ok, c.want, c.ok)
	}
}

// 18.5: of no shares and of an empty list there is none, as there is none of noughts of all forms.
func TestJainOfNothing(t *testing.T) {
	nought, _ := rat.Of(0, 9)
	for _, l := range [][]rat.Rat{nil, {}, {{}}, {{}, nought, {}}, make([]rat.Rat, 256)} {
		index, ok := gauge.Jain(l)
		is(t, "Jain", index, ok, count(0), false)
	}
}

// 18.5: any shares.
func TestJainOfAllKinds(t *testing.T) {
	n := noise(185)
	for range 1500 {
		l := n.shares()
		index, ok := gauge.Jain(of(t, l))
		want, there := jain(l)
		is(t, "Jain", index, ok, want, there)
	}
}

// 18.5: as many shares as there may be flows, of as many weights.
func TestJainOfManyShares(t *testing.T) {
	n := noise(5)
	var l []*big.Rat
	for i := range api.MaxFlows {
		l = append(l, big.NewRat(int64(n.below(1<<40)), int64(4096-i)))
	}
	index, ok := gauge.Jain(of(t, l))
	want, there := jain(l)
	is(t, "Jain", index, ok, want, there)
}

// 18.6: each of the six numbers by itself.
func TestTell(t *testing.T) {
	var hundred, more []int
	for i := range 101 {
		more = append(more, i+1)
	}
	hundred = more[:100]
	for _, c := range []struct {
		delays []int
		want   api.Gauge
	}{
		{[]int{0}, api.Gauge{}},
		{[]int{0, 0}, api.Gauge{}},
		{[]int{5}, api.Gauge{Mean: 5, Greatest: 5, Half: 5, Tail: 5}},
		{[]int{5, 0}, api.Gauge{Mean: 2.5, Greatest: 5, Half: 0, Tail: 5}},
		{[]int{1, 2, 9}, api.Gauge{Mean: 4, Greatest: 9, Half: 2, Tail: 9}},
		{[]int{1, 1, 2}, api.Gauge{Mean: 4.0 / 3, Greatest: 2, Half: 1, Tail: 2}},
		{hundred, api.Gauge{Mean: 50.5, Greatest: 100, Half: 50, Tail: 99}},
		{more, api.Gauge{Mean: 51, Greatest: 101, Half: 51, Tail: 100}},
	} {
		c.want.Share, c.want.Fairness = float64(len(c.delays))/1000, 1
		same(t, "Tell", told(t, delays(c.delays...)).Tell(1000, nil), c.want)
	}
}

// 18.6: near of it: ties go to the even number, and the greatest int up to 2^63.
func TestTellIsNear(t *testing.T) {
	const tie = 1 << 53
	for _, c := range []struct {
		delay int
		want  float64
	}{{tie - 1, tie - 1}, {tie, tie}, {tie + 1, tie}, {tie + 2, tie + 2}, {tie + 3, tie + 4}, {1<<62 + 1<<9, 1 << 62}, {1<<62 + 1<<9 + 1, 1<<62 + 1<<10}, {math.MaxInt, 1 << 63}} {
		want := api.Gauge{Mean: c.want, Greatest: c.want, Half: c.want, Tail: c.want, Share: 1, Fairness: 1}
		same(t, "one delay", told(t, delays(c.delay)).Tell(1, nil), want)
	}
	// The mean is rounded once: neither its parts nor its sum are.
	g := told(t, delays(tie+1, tie+1, tie+4))
	if x := g.Tell(1, nil); x.Mean != tie+2 {
		t.Errorf("2^53 + 2: %v", x.Mean)
	}
	g = told(t, delays(tie+1, tie+2))
	if x := g.Tell(1, nil); x.Mean != tie+2 {
		t.Errorf("2^53 + 3/2: %v", x.Mean)
	}
	g = told(t, delays(1<<62, 1<<62, 1<<62, 1))
	if x := g.Tell(1, nil); x.Mean != 0x1.8p61 {
		t.Errorf("2^61 3/2 and a quarter: %v", x.Mean)
	}
}

// 18.6: the share is of the counted bytes, and 0 where no tick passed.
func TestTellsShare(t *testing.T) {
	g := told(t, []departure{{1, 10}, {2, 15}})
	for _, c := range []struct {
		passed int
		want   float64
	}{{1, 25}, {2, 12.5}, {3, 25.0 / 3}, {25, 1}, {26, 25.0 / 26}, {100, 0.25}, {1 << 62, 25.0 / (1 << 62)}, {math.MaxInt, 25.0 / (1 << 63)}, {0, 0}, {-1, 0}, {-25, 0}, {math.MinInt, 0}} {
		x := g.Tell(c.passed, nil)
		if api.Bits(x.Share) != api.Bits(c.want) {
			t.Errorf("Tell(%d): a share of %v, want %v", c.passed, x.Share, c.want)
		}
		if x.Mean != 1.5 || x.Greatest != 2 || x.Half != 1 || x.Tail != 2 || x.Fairness != 1 {
			t.Errorf("Tell(%d): %v", c.passed, x)
		}
	}
}

// 18.6: the fairness hangs on the shares alone, and is 1 where there is none.
func TestTellsFairness(t *testing.T) {
	for _, g := range []*gauge.Gauge{gauge.New(), told(t, delays(4, 1, 4))} {
		for _, c := range []struct {
			shares []*big.Rat
			want   float64
		}{{nil, 1}, {wholes(0), 1}, {wholes(0, 0), 1}, {wholes(3), 1}, {wholes(2, 2, 2), 1}, {wholes(1, 3), 0.8}, {wholes(0, 1), 0.5}, {wholes(0, 0, 1), 1.0 / 3}, {wholes(1, 2, 3), 6.0 / 7}} {
			for _, passed := range []int{-1, 0, 1, 100} {
				if x := g.Tell(passed, of(t, c.shares)); x.Fairness != c.want {
					t.Errorf("Fairness of %v: %v, want %v", c.shares, x.Fairness, c.want)
				}
			}
		}
	}
}

// 18.6: an index that is less than 1 by less than half a bit is told as 1.
func TestFairnessIsNear(t *testing.T) {
	l := []*big.Rat{count(1), new(big.Rat).Add(count(1), big.NewRat(1, 1<<40))}
	if index, _ := gauge.Jain(of(t, l)); text(index) == "1/1" {
		t.Fatal("an index of 1 for shares that differ")
	}
	if x := gauge.New().Tell(1, of(t, l)); x.Fairness != 1 {
		t.Errorf("Fairness: %v", x.Fairness)
	}
}

// 18.6: departures and shares of all kinds.
func TestTellOfAllKinds(t *testing.T) {
	n := noise(186)
	for range 600 {
		l, shares := n.departures(n.below(80)), n.shares()
		g := told(t, l)
		for range 3 {
			passed := int(n.word()) >> n.below(64)
			same(t, "Tell", g.Tell(passed, of(t, shares)), model(l).tell(passed, shares))
		}
	}
}
