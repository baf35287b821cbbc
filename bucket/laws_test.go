package bucket_test

import (
	"math"
	"math/big"
	"testing"

	"millrace/api"
	"millrace/bucket"
)

// within asks every stretch of takings to be within its bound, and the stretches from the beginning on within theirs. (A stretch that begins or ends between two takings has a greater bound and no more in it.)
func within(t *testing.T, s setup, l []taking) {
	t.Helper()
	m := modelOf(s)
	for i, first := range l {
		sum := 0
		for _, last := range l[i:] {
			sum += last.n
			bound := m.brings(last.tick - first.tick)
			if bound.Add(bound, m.burst); bound.Cmp(count(sum)) < 0 {
				t.Fatalf("%v: %d from %d to %d", s, sum, first.tick, last.tick)
			}
			if i == 0 && m.brings(last.tick-s.t).Cmp(count(sum)) < 0 {
				t.Fatalf("%v: %d up to %d", s, sum, last.tick)
			}
		}
	}
}

// most is the whole part of what a bucket has.
func most(b *bucket.Bucket, tick int) int {
	n, _ := b.At(tick).Floor().Uint()
	return int(n)
}

// takes takes as much as there is, or some of it, or asks for more, at ticks that rise and at times go back, and tells what was taken.
func takes(n *noise, b *bucket.Bucket, s setup) []taking {
	var l []taking
	now := s.t
	for range 60 {
		tick := now + int(n.word()>>4>>n.below(60)) - n.below(3)
		now = min(max(now, tick), lastTick)
		size := most(b, tick) + n.below(3) - 1
		if n.below(2) == 0 {
			size = n.upTo(max(size, 1))
		}
		if b.Take(tick, size) == api.OK {
			l = append(l, taking{now, size})
		}
	}
	return l
}

// 8.6: what is taken in a stretch of ticks is within burst and what they bring.
func TestTakenIsWithinItsBounds(t *testing.T) {
	n := noise(86)
	all := 0
	for _, s := range setups(&n, 300) {
		l := takes(&n, made(t, s), s)
		within(t, s, l)
		all += len(l)
	}
	if all < 2000 {
		t.Fatalf("%d takings alone", all)
	}
}

// 8.6: the bounds are reached: a bucket that is asked for all it has, tick for tick, loses nothing by that.
func TestBoundsAreReached(t *testing.T) {
	for _, c := range []struct {
		s     setup
		ticks int
	}{{setup{10, 1, 3, 0}, 300}, {setup{3, 0.1, 1, 50}, 1000}, {setup{1 << 20, 1000.1, 7, 9}, 500}, {setup{2, 0.75, 1, lastTick - 400}, 400}} {
		b, m, sum := made(t, c.s), modelOf(c.s), 0
		for tick := c.s.t; tick <= c.s.t+c.ticks; tick++ {
			if n := most(b, tick); n > 0 {
				answers(t, "all", b.Take(tick, n), api.OK)
				sum += n
			}
		}
		if rest := m.brings(c.ticks); rest.Sub(rest, count(sum)).Cmp(count(1)) >= 0 || rest.Sign() < 0 {
			t.Fatalf("%v: %d in %d ticks", c.s, sum, c.ticks)
		}
	}
	b := made(t, setup{10, 1, 2, 0})
	answers(t, "a burst", b.Take(1000, 10), api.OK)
	answers(t, "what 6 ticks bring", b.Take(1006, 3), api.OK)
	answers(t, "one more", b.Take(1007, 1), api.ErrPoliced)
	answers(t, "what 8 ticks bring", b.Take(1008, 1), api.OK)
}

// 8.7: At in between changes no later answer, and no Wait does.
func TestAskingTurnsNothing(t *testing.T) {
	n := noise(87)
	for _, s := range setups(&n, 300) {
		plain, asked, m := made(t, s), made(t, s), modelOf(s)
		for i := range 40 {
			c := n.next(m)
			before := m.now
			m.should(c)
			for range n.below(4) {
				asked.At(before + n.below(m.now-before+1))
				asked.At(before - n.below(9))
				asked.Wait(n.upTo(s.burst))
			}
			if a, b := does(asked, c), does(plain, c); a != b {
				t.Fatalf("%v: call number %d, %c(%d, %d): %v asked, %v not", s, i+1, c.kind, c.tick, c.n, a, b)
			}
		}
		has(t, "at last", asked.At(m.now), m.tokens(m.now))
	}
}

// 8.7: every tick asked for on the way, and none of them.
func TestAskingAtEveryTick(t *testing.T) {
	for _, s := range []setup{{7, 0.1, 1, 0}, {7, 1.0 / 3, 1, 4}, {3, 1, 7, 0}, {5, math.Pi, 1000, 1}, {1, 0x1p-9, 1, 0}} {
		plain, asked := made(t, s), made(t, s)
		for tick := s.t; tick < s.t+600; tick++ {
			asked.At(tick)
			if tick%37 == 0 {
				answers(t, "Take", asked.Take(tick, 2), plain.Take(tick, 2))
			}
		}
		if a, b := text(asked.At(700)), text(plain.At(700)); a != b {
			t.Fatalf("%v: %s asked, %s not", s, a, b)
		}
	}
}

// twins are buckets that have all had the same calls, and their time.
func twins(t *testing.T, n *noise, s setup, number int) ([]*bucket.Bucket, int) {
	t.Helper()
	l, m := make([]*bucket.Bucket, number), modelOf(s)
	for i := range l {
		l[i] = made(t, s)
	}
	for range n.below(12) {
		c := n.next(m)
		// Near the end of time nothing is left to wait for.
		c.tick = min(c.tick, m.now+1000)
		m.should(c)
		for _, b := range l {
			does(b, c)
		}
	}
	return l, m.now
}

// 8.8: Take at Wait's tick is OK, and a tick ahead of it ErrPoliced.
func TestTakeAtWait(t *testing.T) {
	n := noise(88)
	met := map[string]int{}
	for _, s := range setups(&n, 1500) {
		l, now := twins(t, &n, s, 2)
		size := n.upTo(s.burst)
		tick, e := l[0].Wait(size)
		switch {
		case e != api.OK:
			met["never"]++
			answers(t, "Take at the end", l[0].Take(lastTick, size), api.ErrPoliced)
		case tick < now || tick > lastTick:
			t.Fatalf("%v: Wait(%d) at %d: %d", s, size, now, tick)
		case tick == now:
			met["now"]++
			answers(t, "Take now", l[0].Take(tick, size), api.OK)
		default:
			met["later"]++
			answers(t, "a tick ahead", l[1].Take(tick-1, size), api.ErrPoliced)
			answers(t, "behind that", l[1].Take(tick, size), api.OK)
			answers(t, "Take at Wait's tick", l[0].Take(tick, size), api.OK)
		}
	}
	for _, what := range []string{"never", "now", "later"} {
		if met[what] < 50 {
			t.Fatalf("%s: met %d times alone", what, met[what])
		}
	}
}

// 8.8: no tick up to Wait's has so many.
func TestNoTickAheadOfWait(t *testing.T) {
	for _, s := range []setup{{20, 0.1, 1, 0}, {20, 1, 3, 5}, {20, 1.0 / 3, 1, 0}, {20, 7, 2, 100}, {20, 20, 1, 0}} {
		for size := 1; size <= 20; size++ {
			b := made(t, s)
			wait, e := b.Wait(size)
			answers(t, "Wait", e, api.OK)
			for tick := s.t; tick < wait; tick++ {
				answers(t, "ahead of it", b.Take(tick, size), api.ErrPoliced)
			}
			answers(t, "at it", b.Take(wait, size), api.OK)
		}
	}
}

// 8.9: whatever is handed in, calls end and none panics.
func TestCallsOfAllEdges(t *testing.T) {
	edges := []int{math.MinInt, math.MinInt + 1, -1 << 62, -1, 0, 1, 2, 1<<40 - 1, 1 << 40, 1<<40 + 1, 1<<62 - 1, 1 << 62, 1<<62 + 1, math.MaxInt - 1, math.MaxInt}
	each(goodBursts, goodRates, goodPers, goodTicks, func(s setup) {
		b, m := made(t, s), modelOf(s)
		for _, tick := range edges {
			for _, n := range edges {
				for _, c := range []call{{'w', 0, n}, {'t', tick, n}, {'a', tick, 0}} {
					got := does(b, c)
					// The model looks for a tick by halves, which would take long here.
					if c.kind != 'w' && got != m.should(c) {
						t.Fatalf("%v: %c(%d, %d): %v", s, c.kind, c.tick, c.n, got)
					}
				}
			}
		}
	})
}

// 8.9: numbers get no longer by many calls than the rate's denominator.
func TestNumbersStayShort(t *testing.T) {
	for _, s := range []setup{{1 << 40, 0x1p-1022 + 0x1p-1074, 1<<30 - 1, 0}, {1 << 40, 0.1, 1<<30 - 1, 0}} {
		b, m := made(t, s), modelOf(s)
		for tick := range 20000 {
			b.Take(tick*1e9, 1)
		}
		_, q := b.At(0).Parts()
		if q.Len() > m.rate.Denom().BitLen() {
			t.Fatalf("%v: %d bits", s, q.Len())
		}
	}
}

// 8.9, 8.3: a full bucket stays full over all ticks there are.
func TestFullForLong(t *testing.T) {
	for _, s := range []setup{{1, 1 << 20, 1, 0}, {1 << 40, 1<<20 - 0x1p-33, 1, 0}, {3, 0.1, 1, 0}, {1, 0x1p-61 + 0x1p-113, 1, 0}} {
		b := made(t, s)
		for _, tick := range []int{1<<61 + 1, 1<<61 + 2, 1<<62 - 1, 1 << 62, math.MaxInt} {
			has(t, "full", b.At(tick), count(s.burst))
		}
		answers(t, "Take of all", b.Take(lastTick, s.burst), api.OK)
		has(t, "empty", b.At(lastTick), new(big.Rat))
	}
}

// work is how much memory a bucket asks for when it is brought on by a tick.
func work(b *bucket.Bucket, tick int) float64 {
	b.At(tick)
	return testing.AllocsPerRun(100, func() {
		tick++
		b.At(tick)
	})
}

// 8.9: a full bucket is not reckoned further: it needs far less than one that fills.
func TestFullIsNotReckoned(t *testing.T) {
	s := setup{3, 0.1, 1<<30 - 1, 0}
	fills, full := work(made(t, s), 10), work(made(t, s), 1<<61)
	if full > fills/2 {
		t.Fatalf("%v makings of memory for a full one, %v for one that fills", full, fills)
	}
}
