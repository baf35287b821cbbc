package bucket_test

import (
	"math"
	"math/big"
	"testing"

	"millrace/api"
	"millrace/bucket"
)

// The bounds of each argument of New, and what lies next to them.
var (
	goodBursts = []int{1, 2, 1<<40 - 1, 1 << 40}
	badBursts  = []int{math.MinInt, -1, 0, 1<<40 + 1, math.MaxInt}
	goodRates  = []float64{0, math.Copysign(0, -1), 0x1p-1074, 0x1p-1022, 0.1, 1, 1<<20 - 0x1p-33, 1 << 20}
	badRates   = []float64{
		math.NaN(), math.Float64frombits(0x7ff0000000000001), math.Float64frombits(0xffffffffffffffff), math.Inf(1), math.Inf(-1),
		-0x1p-1074, -1, -math.MaxFloat64, 1<<20 + 0x1p-32, 1<<20 + 1, math.MaxFloat64,
	}
	goodPers  = []int{1, 3, 1<<30 - 1, 1 << 30}
	badPers   = []int{math.MinInt, -1, 0, 1<<30 + 1, math.MaxInt}
	goodTicks = []int{0, 1, 1<<62 - 1, 1 << 62}
	badTicks  = []int{math.MinInt, -1, 1<<62 + 1, math.MaxInt}
)

// refused asks for no bucket and an error.
func refused(t *testing.T, s setup, want api.Errno) {
	t.Helper()
	if b, e := bucket.New(s.burst, s.rate, s.per, s.t); b != nil || e != want {
		t.Fatalf("New of %v: %v %v, want %v", s, b, e, want)
	}
}

// each goes through all joins of these arguments.
func each(bursts []int, rates []float64, pers, ticks []int, do func(s setup)) {
	for _, burst := range bursts {
		for _, rate := range rates {
			for _, per := range pers {
				for _, tick := range ticks {
					do(setup{burst, rate, per, tick})
				}
			}
		}
	}
}

// with is both lists, one behind the other.
func with[T any](a, b []T) []T { return append(append([]T{}, a...), b...) }

// 8.1: all good arguments give an empty bucket at the tick.
func TestNewIsEmpty(t *testing.T) {
	each(goodBursts, goodRates, goodPers, goodTicks, func(s setup) {
		b := made(t, s)
		answers(t, "Take of a new one", b.Take(s.t, 1), api.ErrPoliced)
		has(t, "At of a new one", b.At(s.t), new(big.Rat))
		has(t, "At ahead of it", made(t, s).At(math.MinInt), new(big.Rat))
	})
}

// 8.1: the burst comes first, then the rate and what it is for, then the tick.
func TestNewRefuses(t *testing.T) {
	rates, pers, ticks := with(goodRates, badRates), with(goodPers, badPers), with(goodTicks, badTicks)
	each(badBursts, rates, pers, ticks, func(s setup) { refused(t, s, api.ErrBurst) })
	each(goodBursts, badRates, pers, ticks, func(s setup) { refused(t, s, api.ErrRate) })
	each(goodBursts, goodRates, badPers, ticks, func(s setup) { refused(t, s, api.ErrRate) })
	each(goodBursts, goodRates, goodPers, badTicks, func(s setup) { refused(t, s, api.ErrArg) })
}

// 8.1: the rate is the fraction that the number stands for, over per.
func TestRateIsExact(t *testing.T) {
	n := noise(81)
	for range 2000 {
		rate := math.Float64frombits(n.word() >> 1 % math.Float64bits(1<<20))
		per := n.upTo(1 << 30)
		want := new(big.Rat).SetFloat64(rate)
		want.Quo(want, count(per))
		has(t, "a tick's", made(t, setup{1 << 40, rate, per, 5}).At(6), want)
	}
	b := made(t, setup{5, 0.1, 1, 0})
	if text(b.At(10)) == "1/1" || b.At(10).Floor().Text() != "1" {
		t.Fatalf("0.1 in 10 ticks: %s", text(b.At(10)))
	}
	// Ten of 0.1 are more than 1, and ten of its neighbour are less.
	answers(t, "0.1", b.Take(10, 1), api.OK)
	answers(t, "less than 0.1", made(t, setup{5, math.Nextafter(0.1, 0), 1, 0}).Take(10, 1), api.ErrPoliced)
	has(t, "the least number", made(t, setup{1, 0x1p-1074, 1 << 30, 0}).At(lastTick), new(big.Rat).SetFrac(big.NewInt(1), new(big.Int).Lsh(big.NewInt(1), 1074+30-62)))
	has(t, "-0", made(t, setup{1, math.Copysign(0, -1), 1, 0}).At(lastTick), new(big.Rat))
	has(t, "0", made(t, setup{1, 0, 1, 0}).At(lastTick), new(big.Rat))
}

// 8.1: buckets have nothing in common.
func TestBucketsApart(t *testing.T) {
	s := setup{10, 1, 2, 0}
	a, b := made(t, s), made(t, s)
	has(t, "the first one", a.At(8), count(4))
	has(t, "the other one", b.At(2), count(1))
	answers(t, "the first one's Take", a.Take(8, 4), api.OK)
	has(t, "the other one still", b.At(8), count(4))
	has(t, "the first one still", a.At(0), new(big.Rat))
}

// 8.2: an earlier tick counts as the greatest one so far.
func TestEarlierTicks(t *testing.T) {
	b := made(t, setup{10, 0.5, 1, 100})
	for _, tick := range []int{99, 0, -1, math.MinInt, 100} {
		has(t, "New's", b.At(tick), new(big.Rat))
	}
	has(t, "At(103)", b.At(103), big.NewRat(3, 2))
	for _, tick := range []int{102, 90, 0, -1, math.MinInt, 103} {
		has(t, "back", b.At(tick), big.NewRat(3, 2))
		answers(t, "Take back", b.Take(tick, 2), api.ErrPoliced)
	}
	answers(t, "Take of an earlier tick", b.Take(-7, 1), api.OK)
	has(t, "what it left", b.At(0), big.NewRat(1, 2))
	has(t, "the next tick", b.At(104), count(1))
}

// 8.2: a tick above MaxTime counts as MaxTime.
func TestTicksPastTheEnd(t *testing.T) {
	for _, tick := range []int{1 << 62, 1<<62 + 1, 1<<62 + 9, math.MaxInt} {
		b := made(t, setup{100, 1, 1, lastTick - 7})
		has(t, "At", b.At(tick), count(7))
		has(t, "At once more", b.At(math.MaxInt), count(7))
		b = made(t, setup{100, 1, 1, lastTick - 7})
		answers(t, "Take of too many", b.Take(tick, 8), api.ErrPoliced)
		answers(t, "Take of all", b.Take(math.MaxInt, 7), api.OK)
		has(t, "nothing more", b.At(math.MaxInt), new(big.Rat))
		waits(t, "at the end", b, 1, 0, api.ErrPoliced)
	}
	b := made(t, setup{100, 1, 1, lastTick})
	has(t, "New at the end", b.At(math.MaxInt), new(big.Rat))
}

// 8.2, 8.4: At and Take move the time, whatever is answered; Wait does not. (Where tokens are left, Wait for one tells the time.)
func TestWhoMovesTheTime(t *testing.T) {
	for _, c := range []struct {
		kind byte
		n    int
		e    api.Errno
	}{{'a', 0, api.OK}, {'t', 1, api.OK}, {'t', 3, api.ErrPoliced}, {'t', math.MaxInt, api.ErrPoliced}, {'t', 0, api.ErrArg}, {'t', math.MinInt, api.ErrArg}} {
		b := made(t, setup{10, 1, 1, 0})
		answers(t, "Take(4, 4)", b.Take(4, 4), api.OK)
		answers(t, "the call that moves it", does(b, call{c.kind, 6, c.n}).e, c.e)
		waits(t, "moved", b, 1, 6, api.OK)
	}
	b := made(t, setup{10, 1, 1, 0})
	b.At(1)
	waits(t, "all", b, 10, 10, api.OK)
	waits(t, "too many", b, 11, 0, api.ErrPoliced)
	waits(t, "none", b, 0, 0, api.ErrArg)
	waits(t, "still there", b, 1, 1, api.OK)
	has(t, "behind Wait", b.At(2), count(2))
}

// 8.3: what it had, and what the ticks brought, up to the burst.
func TestAt(t *testing.T) {
	b := made(t, setup{2, 1, 3, 0})
	for tick, want := range []*big.Rat{big.NewRat(0, 1), big.NewRat(1, 3), big.NewRat(2, 3), count(1), big.NewRat(4, 3), big.NewRat(5, 3), count(2), count(2), count(2)} {
		has(t, "by thirds", b.At(tick), want)
	}
	b = made(t, setup{2, 1, 3, 0})
	has(t, "At(5)", b.At(5), big.NewRat(5, 3))
	has(t, "At(7)", b.At(7), count(2))
	b = made(t, setup{10, 0.5, 1, 100})
	has(t, "At(2^62 + 9)", b.At(lastTick+9), count(10))
	b = made(t, setup{1 << 40, 1 << 20, 1, 0})
	has(t, "one short of full", b.At(1<<20-1), count(1<<40-1<<20))
	has(t, "full", b.At(1<<20), count(1<<40))
	has(t, "full for long", b.At(lastTick), count(1<<40))
}

// 8.3: a burst that no tick hits is full all the same, and what is beyond it is lost.
func TestBurstBetweenTicks(t *testing.T) {
	b := made(t, setup{5, 3, 1, 0})
	has(t, "At(1)", b.At(1), count(3))
	has(t, "At(2)", b.At(2), count(5))
	answers(t, "Take(2, 5)", b.Take(2, 5), api.OK)
	has(t, "nothing is left", b.At(2), new(big.Rat))
	has(t, "At(3)", b.At(3), count(3))
	b = made(t, setup{1, 1 << 20, 1, 0})
	has(t, "a burst of 1", b.At(1), count(1))
	answers(t, "Take(1, 2)", b.Take(1, 2), api.ErrPoliced)
	answers(t, "Take(1, 1)", b.Take(1, 1), api.OK)
	answers(t, "Take(1, 1) again", b.Take(1, 1), api.ErrPoliced)
	answers(t, "Take(2, 1)", b.Take(2, 1), api.OK)
}

// 8.4: what may be taken, and what may not.
func TestTake(t *testing.T) {
	b := made(t, setup{10, 0.5, 1, 100})
	b.At(103)
	answers(t, "Take(104, 3)", b.Take(104, 3), api.ErrPoliced)
	answers(t, "Take(104, 2)", b.Take(104, 2), api.OK)
	has(t, "At(104)", b.At(104), new(big.Rat))
	answers(t, "Take(107, 2)", b.Take(107, 2), api.ErrPoliced)
	has(t, "At(107)", b.At(107), big.NewRat(3, 2))
	answers(t, "Take(107, 1)", b.Take(107, 1), api.OK)
	has(t, "what it left", b.At(107), big.NewRat(1, 2))
	b.At(lastTick)
	answers(t, "more than burst", b.Take(0, 11), api.ErrPoliced)
	answers(t, "burst", b.Take(0, 10), api.OK)
	answers(t, "one more", b.Take(0, 1), api.ErrPoliced)
}

// 8.4: ErrArg for n below 1, also where there are too few; beside an error nothing is taken.
func TestTakeOfWrongCounts(t *testing.T) {
	b := made(t, setup{10, 1, 2, 0})
	for _, n := range []int{0, -1, -10, math.MinInt} {
		answers(t, "of an empty one", b.Take(0, n), api.ErrArg)
		has(t, "behind it", b.At(0), new(big.Rat))
	}
	for _, n := range []int{0, -1, -10, math.MinInt} {
		answers(t, "of a full one", b.Take(20, n), api.ErrArg)
		has(t, "behind it", b.At(20), count(10))
	}
	for _, n := range []int{11, 1 << 40, 1<<40 + 1, 1 << 62, math.MaxInt} {
		answers(t, "too many", b.Take(20, n), api.ErrPoliced)
		has(t, "behind it", b.At(20), count(10))
	}
	answers(t, "the greatest burst", made(t, setup{1 << 40, 1 << 20, 1, 0}).Take(1<<20, 1<<40), api.OK)
}

// 8.5: the first tick, from its time on.
func TestWait(t *testing.T) {
	b := made(t, setup{10, 0.5, 1, 100})
	b.At(104)
	b.Take(104, 2)
	waits(t, "empty", b, 4, 112, api.OK)
	waits(t, "empty", b, 1, 106, api.OK)
	waits(t, "empty", b, 10, 124, api.OK)
	waits(t, "empty", b, 11, 0, api.ErrPoliced)
	b.At(111)
	waits(t, "7/2", b, 3, 111, api.OK)
	waits(t, "7/2", b, 4, 112, api.OK)
	b.At(1000)
	waits(t, "full", b, 10, 1000, api.OK)
	waits(t, "full", b, 1, 1000, api.OK)
	b = made(t, setup{2, 1, 3, 0})
	waits(t, "thirds", b, 1, 3, api.OK)
	waits(t, "thirds", b, 2, 6, api.OK)
	b.At(7)
	waits(t, "thirds, full", b, 2, 7, api.OK)
	b = made(t, setup{5, 3, 1, 0})
	waits(t, "a tick that brings more than there is room for", b, 5, 2, api.OK)
	waits(t, "a tick that brings more than is asked for", b, 4, 2, api.OK)
	waits(t, "a tick that brings just that", b, 3, 1, api.OK)
}

// 8.5: counts that may not be, or that it never holds.
func TestWaitOfWrongCounts(t *testing.T) {
	for _, tick := range []int{0, 4, 1000, lastTick} {
		for _, rate := range []float64{0, 1} {
			b := made(t, setup{10, rate, 1, 0})
			b.At(tick)
			for _, n := range []int{0, -1, -10, math.MinInt} {
				waits(t, "below 1", b, n, 0, api.ErrArg)
			}
			for _, n := range []int{11, 1 << 40, 1<<40 + 1, 1 << 62, math.MaxInt} {
				waits(t, "above burst", b, n, 0, api.ErrPoliced)
			}
		}
	}
}

// 8.5: a tick up to MaxTime, or none.
func TestWaitAtTheEnd(t *testing.T) {
	for _, c := range []struct {
		s    setup
		n    int
		tick int
		e    api.Errno
	}{
		{setup{9, 1, 1, lastTick - 3}, 2, lastTick - 1, api.OK},
		{setup{9, 1, 1, lastTick - 3}, 3, lastTick, api.OK},
		{setup{9, 1, 1, lastTick - 3}, 4, 0, api.ErrPoliced},
		{setup{9, 1, 1, lastTick}, 1, 0, api.ErrPoliced},
		{setup{1 << 40, 1, 1 << 30, 0}, 1 << 32, lastTick, api.OK},
		{setup{1 << 40, 1, 1 << 30, 1}, 1 << 32, 0, api.ErrPoliced},
		{setup{1 << 40, 1, 1 << 30, 0}, 1<<32 + 1, 0, api.ErrPoliced},
		{setup{1 << 40, math.Nextafter(1, 2), 1 << 30, 0}, 1 << 32, lastTick - 1023, api.OK},
		{setup{1 << 40, math.Nextafter(1, 0), 1 << 30, 0}, 1 << 32, 0, api.ErrPoliced},
		{setup{1, 0x1p-62, 1, 0}, 1, lastTick, api.OK},
		{setup{1, 0x1p-62, 1, 1}, 1, 0, api.ErrPoliced},
		{setup{1, 0x1p-62, 2, 0}, 1, 0, api.ErrPoliced},
		{setup{1, 0x1p-64, 1, 0}, 1, 0, api.ErrPoliced},
		{setup{1 << 40, 0x1p-24, 1, 0}, 1 << 40, 0, api.ErrPoliced},
		{setup{1 << 40, 0x1p-1074, 1 << 30, 0}, 1 << 40, 0, api.ErrPoliced},
		{setup{1, 0, 1, 0}, 1, 0, api.ErrPoliced},
		{setup{1, math.Copysign(0, -1), 1 << 30, 0}, 1, 0, api.ErrPoliced},
	} {
		b := made(t, c.s)
		waits(t, "a new one", b, c.n, c.tick, c.e)
		waits(t, "asked again", b, c.n, c.tick, c.e)
	}
	b := made(t, setup{9, 1, 1, 0})
	b.At(math.MaxInt)
	waits(t, "there already", b, 9, lastTick, api.OK)
}

// 8.2 to 8.5: calls of all kinds, one behind the other.
func TestCallsAgainstTheModel(t *testing.T) {
	n := noise(83)
	met := map[api.Errno]int{}
	for _, s := range setups(&n, 400) {
		b, m := made(t, s), modelOf(s)
		for i := range 60 {
			c := n.next(m)
			got, want := does(b, c), m.should(c)
			if got != want {
				t.Fatalf("%v: call number %d, %c(%d, %d): %v, want %v", s, i+1, c.kind, c.tick, c.n, got, want)
			}
			if c.kind != 'a' {
				met[got.e]++
			}
		}
	}
	for _, e := range []api.Errno{api.OK, api.ErrArg, api.ErrPoliced} {
		if met[e] < 500 {
			t.Fatalf("%v was met %d times alone", e, met[e])
		}
	}
}
