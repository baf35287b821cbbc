package gauge_test

import (
	"math"
	"math/big"
	"slices"
	"testing"

	"millrace/api"
	"millrace/gauge"
	"millrace/nat"
	"millrace/rat"
)

// noise gives the same words in every run.
type noise uint64

func (n *noise) word() uint64 {
	*n += 0x9e3779b97f4a7c15
	z := uint64(*n)
	z = (z ^ z>>30) * 0xbf58476d1ce4e5b9
	z = (z ^ z>>27) * 0x94d049bb133111eb
	return z ^ z>>31
}

func (n *noise) below(bound int) int { return int(n.word() % uint64(bound)) }

// upTo is a number from 1 to most, of any size.
func (n *noise) upTo(most int) int {
	return 1 + min(int(n.word()>>1>>n.below(63)), most-1)
}

// departure is what Add is told.
type departure struct{ delay, size int }

// departures are as many, of delays of which most stand near one another, or are the same, or are of any size.
func (n *noise) departures(count int) []departure {
	l := make([]departure, count)
	kind, bound := n.below(4), n.upTo(1000)
	for i := range l {
		d := departure{n.below(bound), n.upTo(api.MaxSize)}
		switch {
		case kind == 0 && i > 0:
			d.delay = l[n.below(i)].delay + n.below(2)
		case kind == 1:
			d.delay = int(n.word() >> 1 >> n.below(64))
		case kind == 2:
			d.delay = math.MaxInt - n.below(bound)
		}
		l[i] = departure{max(0, d.delay), d.size}
	}
	return l
}

// parts are p and q of a quantile: any, or such that a place is met just, or missed by one.
func (n *noise) parts(count int) (p, q int) {
	q = n.upTo(1 << 31)
	switch n.below(4) {
	case 0:
		q = 1<<31 - n.below(3)
	case 1:
		q = max(1, count+n.below(3)-1)
	case 2:
		q = []int{1, 2, 3, 4, 10, 100}[n.below(6)]
	}
	return n.below(q + 1), q
}

// told is a gauge that was told of departures, all of which it must count.
func told(t *testing.T, l []departure) *gauge.Gauge {
	t.Helper()
	g := gauge.New()
	for _, d := range l {
		answers(t, "Add", g.Add(d.delay, d.size), api.OK)
	}
	return g
}

// model is all that was counted, in one list; each question goes through all of it.
type model []departure

func (m model) bytes() int {
	sum := 0
	for _, d := range m {
		sum += d.size
	}
	return sum
}

// ranked are the delays, the least first.
func (m model) ranked() []int {
	var l []int
	for _, d := range m {
		l = append(l, d.delay)
	}
	slices.Sort(l)
	return l
}

func (m model) mean() (*big.Rat, bool) {
	sum := new(big.Rat)
	if len(m) == 0 {
		return sum, false
	}
	for _, d := range m {
		sum.Add(sum, count(d.delay))
	}
	return sum.Quo(sum, count(len(m))), true
}

// quantile looks for the first place that is not below n p / q.
func (m model) quantile(p, q int) (int, bool) {
	if q < 1 || q > 1<<31 || p < 0 || p > q {
		return 0, false
	}
	want := big.NewInt(int64(len(m)))
	want.Mul(want, big.NewInt(int64(p)))
	for i, delay := range m.ranked() {
		place := big.NewInt(int64(i + 1))
		if place.Mul(place, big.NewInt(int64(q))).Cmp(want) >= 0 {
			return delay, true
		}
	}
	return 0, false
}

// delays counts span by span, from one power of 2 to the next, till all are counted.
func (m model) delays() []int {
	var l []int
	from, next, counted := uint64(0), uint64(1), 0
	for counted < len(m) {
		n := 0
		for _, d := range m {
			if from <= uint64(d.delay) && uint64(d.delay) < next {
				n++
			}
		}
		l, counted = append(l, n), counted+n
		from, next = next, 2*next
	}
	return l
}

func (m model) tell(passed int, shares []*big.Rat) api.Gauge {
	mean, _ := m.mean()
	half, _ := m.quantile(1, 2)
	tail, _ := m.quantile(99, 100)
	x := api.Gauge{Mean: near(mean), Half: near(count(half)), Tail: near(count(tail)), Fairness: 1}
	for _, d := range m {
		x.Greatest = max(x.Greatest, near(count(d.delay)))
	}
	if passed > 0 {
		x.Share = near(big.NewRat(int64(m.bytes()), int64(passed)))
	}
	if index, ok := jain(shares); ok {
		x.Fairness = near(index)
	}
	return x
}

// jain is 1 less how far the shares are apart: less the sum of the squares of the differences of all pairs, over how many times the sum of the squares.
func jain(shares []*big.Rat) (*big.Rat, bool) {
	apart, squares := new(big.Rat), new(big.Rat)
	for i, x := range shares {
		squares.Add(squares, times(x, x))
		for _, y := range shares[:i] {
			difference := new(big.Rat).Sub(x, y)
			apart.Add(apart, times(difference, difference))
		}
	}
	if squares.Sign() == 0 {
		return new(big.Rat), false
	}
	apart.Quo(apart, times(squares, count(len(shares))))
	return apart.Sub(count(1), apart), true
}

// near is big's own rounding.
func near(x *big.Rat) float64 {
	a, _ := x.Float64()
	return a
}

func count(n int) *big.Rat { return new(big.Rat).SetInt64(int64(n)) }

func times(x, y *big.Rat) *big.Rat { return new(big.Rat).Mul(x, y) }

// wholes are whole numbers as fractions.
func wholes(l ...int) []*big.Rat {
	var out []*big.Rat
	for _, n := range l {
		out = append(out, count(n))
	}
	return out
}

// shares are some fractions, at times with noughts among them, or all near one another, or all the same.
func (n *noise) shares() []*big.Rat {
	l := make([]*big.Rat, n.below(12))
	kind, bound := n.below(5), n.upTo(1<<40)
	for i := range l {
		x := big.NewRat(int64(n.below(bound)), int64(n.upTo(4096)))
		switch {
		case kind == 0 && i > 0:
			x = l[0]
		case kind == 1 && i > 0:
			x.Add(l[0], big.NewRat(1, 1<<62))
		case kind == 2 && n.below(2) == 0:
			x = new(big.Rat)
		case kind == 3:
			x.Mul(x, new(big.Rat).SetFrac(new(big.Int).Lsh(big.NewInt(1), uint(n.below(2000))), big.NewInt(3)))
		}
		l[i] = x
	}
	return l
}

// of are the same fractions as the program has them.
func of(t *testing.T, l []*big.Rat) []rat.Rat {
	t.Helper()
	var out []rat.Rat
	for _, x := range l {
		r, ok := rat.From(nat.FromBytes(x.Num().Bytes()), nat.FromBytes(x.Denom().Bytes()))
		if !ok {
			t.Fatalf("From(%s) says false", x)
		}
		out = append(out, r)
	}
	return out
}

// text is a fraction in its lowest terms.
func text(r rat.Rat) string {
	p, q := r.Parts()
	return p.Text() + "/" + q.Text()
}

// answers asks for the answer of an Add.
func answers(t *testing.T, what string, got, want api.Errno) {
	t.Helper()
	if got != want {
		t.Fatalf("%s: %v, want %v", what, got, want)
	}
}

// is asks for a fraction, and whether there is one.
func is(t *testing.T, what string, r rat.Rat, ok bool, want *big.Rat, there bool) {
	t.Helper()
	if text(r) != want.String() || ok != there {
		t.Fatalf("%s: %s %v, want %s %v", what, text(r), ok, want, there)
	}
}

// agrees asks a gauge for all that it tells, and holds it against the model.
func agrees(t *testing.T, what string, g *gauge.Gauge, m model) {
	t.Helper()
	if got, want := g.Count(), (api.Count{Packets: len(m), Bytes: m.bytes()}); got != want {
		t.Fatalf("%s: Count %v, want %v", what, got, want)
	}
	mean, ok := g.Mean()
	wantMean, there := m.mean()
	is(t, what+": Mean", mean, ok, wantMean, there)
	if got, want := g.Delays(), m.delays(); !slices.Equal(got, want) {
		t.Fatalf("%s: Delays %v, want %v", what, got, want)
	}
	for _, x := range [][2]int{{0, 1}, {1, 1}, {1, 2}, {99, 100}, {1, 3}, {1 << 31, 1 << 31}, {1<<31 - 1, 1 << 31}, {1, 1 << 31}} {
		quantile(t, what, g, m, x[0], x[1])
	}
	same(t, what, g.Tell(7, nil), m.tell(7, nil))
}

// quantile asks for a quantile, and holds it against the model.
func quantile(t *testing.T, what string, g *gauge.Gauge, m model, p, q int) {
	t.Helper()
	got, ok := g.Quantile(p, q)
	if want, there := m.quantile(p, q); got != want || ok != there {
		t.Fatalf("%s: Quantile(%d, %d): %d %v, want %d %v", what, p, q, got, ok, want, there)
	}
}

// same asks for numbers bit by bit, so that -0 is not 0.
func same(t *testing.T, what string, got, want api.Gauge) {
	t.Helper()
	if bits(got) != bits(want) {
		t.Fatalf("%s: %v, want %v", what, got, want)
	}
}

func bits(x api.Gauge) [6]uint64 {
	return [6]uint64{api.Bits(x.Mean), api.Bits(x.Greatest), api.Bits(x.Half), api.Bits(x.Tail), api.Bits(x.Share), api.Bits(x.Fairness)}
}
