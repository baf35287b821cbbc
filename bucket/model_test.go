package bucket_test

import (
	"math"
	"math/big"
	"sort"
	"testing"

	"millrace/api"
	"millrace/bucket"
	"millrace/rat"
)

const lastTick = 1 << 62

// noise gives the same words in every run.
type noise uint64

func (n *noise) word() uint64 {
	*n += 0x9e3779b97f4a7c15
	z := uint64(*n)
	z = (z ^ z>>30) * 0xbf58476d1ce4e5b9
	z = (z ^ z>>27) * 0x94d049bb133111eb
	return z ^ z>>31
}

func (n *noise) below(bound int) int { return int(n.word() % uint64(bound)) }

// upTo is a number from 1 to most, of any size.
func (n *noise) upTo(most int) int {
	return 1 + min(int(n.word()>>1>>n.below(63)), most-1)
}

// setup is what a bucket is made of.
type setup struct {
	burst  int
	rate   float64
	per, t int
}

// made is the bucket of a set-up, which must be given.
func made(t *testing.T, s setup) *bucket.Bucket {
	t.Helper()
	b, e := bucket.New(s.burst, s.rate, s.per, s.t)
	if b == nil || e != api.OK {
		t.Fatalf("New of %v: %v %v", s, b, e)
	}
	return b
}

// setups are buckets of all kinds: bursts, rates and times at their bounds and between them.
func setups(n *noise, count int) []setup {
	rates := []float64{0, math.Copysign(0, -1), 0x1p-1074, 0x1p-1022, 0x1p-40, 0.1, 1.0 / 3, 0.5, 1, 1.5, math.Pi, 1000.1, 1<<20 - 0x1p-33, 1 << 20}
	pers := []int{1, 1, 2, 3, 7, 1000, 1<<30 - 1, 1 << 30}
	l := make([]setup, count)
	for i := range l {
		s := setup{n.upTo(1 << 40), rates[n.below(len(rates))], pers[n.below(len(pers))], n.upTo(lastTick) - 1}
		switch n.below(4) {
		case 0:
			s.burst = 1 + n.below(20)
		case 1:
			s.burst = 1<<40 - n.below(2)
		}
		switch n.below(4) {
		case 0:
			s.t = n.below(5)
		case 1:
			s.t = lastTick - n.below(1000)
		}
		l[i] = s
	}
	return l
}

// model is a bucket that knows all that was ever taken from it, and reckons from the beginning each time it is asked.
type model struct {
	burst, rate *big.Rat
	began, now  int
	taken       []taking
}

// taking is n tokens that were taken at a tick.
type taking struct{ tick, n int }

func modelOf(s setup) *model {
	rate := new(big.Rat).SetFloat64(s.rate)
	return &model{
		burst: count(s.burst),
		rate:  rate.Quo(rate, count(s.per)),
		began: s.t,
		now:   s.t,
	}
}

func count(n int) *big.Rat { return new(big.Rat).SetInt64(int64(n)) }

// brings is what so many ticks bring.
func (m *model) brings(ticks int) *big.Rat { return new(big.Rat).Mul(m.rate, count(ticks)) }

// tokens is how many there are at a tick that is not ahead of its time. What was taken from a tick on is never more than burst and what the ticks brought, from the beginning on never more than what they brought: what is left of the least such bound is there still.
func (m *model) tokens(tick int) *big.Rat {
	least := new(big.Rat).Set(m.burst)
	taken := new(big.Rat)
	for i := len(m.taken) - 1; i >= 0; i-- {
		x := m.taken[i]
		taken.Add(taken, count(x.n))
		bound := m.brings(tick - x.tick)
		bound.Add(bound, m.burst).Sub(bound, taken)
		if bound.Cmp(least) < 0 {
			least = bound
		}
	}
	bound := m.brings(tick - m.began)
	bound.Sub(bound, taken)
	if bound.Cmp(least) < 0 {
		least = bound
	}
	return least
}

// at brings it to a tick.
func (m *model) at(tick int) *big.Rat {
	if tick > lastTick {
		tick = lastTick
	}
	if tick > m.now {
		m.now = tick
	}
	return m.tokens(m.now)
}

func (m *model) take(tick, n int) api.Errno {
	had := m.at(tick)
	switch {
	case n < 1:
		return api.ErrArg
	case had.Cmp(count(n)) < 0:
		return api.ErrPoliced
	}
	m.taken = append(m.taken, taking{m.now, n})
	return api.OK
}

// wait looks for the first tick by halves.
func (m *model) wait(n int) (int, api.Errno) {
	if n < 1 {
		return 0, api.ErrArg
	}
	ticks := lastTick - m.now + 1
	first := sort.Search(ticks, func(i int) bool { return m.tokens(m.now+i).Cmp(count(n)) >= 0 })
	if first == ticks {
		return 0, api.ErrPoliced
	}
	return m.now + first, api.OK
}

// text is a fraction in its lowest terms.
func text(r rat.Rat) string {
	p, q := r.Parts()
	return p.Text() + "/" + q.Text()
}

// has asks a bucket's tokens to be a fraction.
func has(t *testing.T, what string, got rat.Rat, want *big.Rat) {
	t.Helper()
	if text(got) != want.String() {
		t.Fatalf("%s: %s, want %s", what, text(got), want)
	}
}

// answers asks for the answer of a Take.
func answers(t *testing.T, what string, got, want api.Errno) {
	t.Helper()
	if got != want {
		t.Fatalf("%s: %v, want %v", what, got, want)
	}
}

// waits asks for the answer of a Wait.
func waits(t *testing.T, what string, b *bucket.Bucket, n, tick int, want api.Errno) {
	t.Helper()
	if got, e := b.Wait(n); got != tick || e != want {
		t.Fatalf("%s: Wait(%d): %d %v, want %d %v", what, n, got, e, tick, want)
	}
}

// call is one call of a bucket; a Wait has no tick.
type call struct {
	kind    byte // 'a', 't' or 'w'
	tick, n int
}

// answer is what a call was answered; a Wait's tick, else the tokens.
type answer struct {
	tokens string
	tick   int
	e      api.Errno
}

// does makes a call.
func does(b *bucket.Bucket, c call) answer {
	switch c.kind {
	case 'a':
		return answer{tokens: text(b.At(c.tick))}
	case 't':
		return answer{e: b.Take(c.tick, c.n)}
	}
	tick, e := b.Wait(c.n)
	return answer{tick: tick, e: e}
}

// should is what a call should be answered.
func (m *model) should(c call) answer {
	switch c.kind {
	case 'a':
		return answer{tokens: m.at(c.tick).String()}
	case 't':
		return answer{e: m.take(c.tick, c.n)}
	}
	tick, e := m.wait(c.n)
	return answer{tick: tick, e: e}
}

// next is a call behind those that the model has had, such that each answer is met often.
func (n *noise) next(m *model) call {
	c := call{"atw"[n.below(3)], m.now, 0}
	had, _ := m.tokens(m.now).Float64()
	most, _ := m.burst.Float64()
	switch n.below(8) {
	case 0:
		c.tick = m.now - n.below(100)
	case 1:
		c.tick = int(n.word()) >> n.below(64)
	case 2, 3:
		c.tick = m.now + n.below(4)
	case 4, 5:
		c.tick = m.now + int(n.word()>>3>>n.below(60))
	}
	switch n.below(6) {
	case 0:
		c.n = n.below(4) - 1
	case 1:
		c.n = int(had)
	case 2:
		c.n = int(had) + 1
	case 3:
		c.n = int(most) + n.below(3) - 1
	case 4:
		c.n = n.upTo(int(most))
	default:
		c.n = int(n.word()) >> n.below(64)
	}
	return c
}
