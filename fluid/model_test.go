package fluid_test

import (
	"math"
	"math/big"
	"testing"

	"millrace/api"
	"millrace/rat"
)

// noise gives the same words in every run.
type noise uint64

func (n *noise) word() uint64 {
	*n += 0x9e3779b97f4a7c15
	z := uint64(*n)
	z = (z ^ z>>30) * 0xbf58476d1ce4e5b9
	z = (z ^ z>>27) * 0x94d049bb133111eb
	return z ^ z>>31
}

func (n *noise) below(bound int) int { return int(n.word() % uint64(bound)) }

// upTo is a number from 1 to most, of any size.
func (n *noise) upTo(most int) int {
	return 1 + min(int(n.word()>>1>>n.below(63)), most-1)
}

func count(n int) *big.Rat { return new(big.Rat).SetInt64(int64(n)) }

func plus(a, b *big.Rat) *big.Rat { return new(big.Rat).Add(a, b) }

func less(a, b *big.Rat) *big.Rat { return new(big.Rat).Sub(a, b) }

func part(a *big.Rat, p, q int) *big.Rat { return new(big.Rat).Mul(a, big.NewRat(int64(p), int64(q))) }

// text is a fraction in the library's form: so it is held to its lowest terms too.
func text(r rat.Rat) string {
	p, q := r.Parts()
	return p.Text() + "/" + q.Text()
}

func texts(l []rat.Rat) []string {
	told := []string{}
	for _, r := range l {
		told = append(told, text(r))
	}
	return told
}

// exact is a fraction as the library's.
func exact(t *testing.T, r rat.Rat) *big.Rat {
	t.Helper()
	x, ok := new(big.Rat).SetString(text(r))
	if !ok {
		t.Fatalf("%s is no fraction", text(r))
	}
	return x
}

func exactly(t *testing.T, l []rat.Rat) []*big.Rat {
	t.Helper()
	var all []*big.Rat
	for _, r := range l {
		all = append(all, exact(t, r))
	}
	return all
}

// same holds fractions against what they should be.
func same(t *testing.T, what string, l []rat.Rat, want []*big.Rat) {
	t.Helper()
	if len(l) != len(want) {
		t.Fatalf("%s: %d of them, want %d", what, len(l), len(want))
	}
	for i, w := range want {
		if text(l[i]) != w.String() {
			t.Fatalf("%s: number %d is %s, want %s", what, i, text(l[i]), w)
		}
	}
}

// waiting is a packet that is there: its place in the history, and what of it is not served yet.
type waiting struct {
	place int
	left  *big.Rat
}

// pipe is a flow of the model.
type pipe struct {
	weight int
	queue  []waiting
	last   *big.Rat
	served *big.Rat
}

// model is a fluid that goes by bytes, packet by packet: what it has of a flow is what is not served yet, whatever the tags are. V is reckoned beside that, by the page's words.
type model struct {
	moment, virtual *big.Rat
	pipes           map[int]*pipe
	finish, tags    []*big.Rat
	idle            []*big.Rat
}

// modelOf is the model behind a history, at an end; nil is none.
func modelOf(l []api.Item, end *big.Rat) *model {
	m := &model{moment: new(big.Rat), virtual: new(big.Rat), pipes: map[int]*pipe{}}
	m.finish = make([]*big.Rat, len(l))
	for i, p := range l {
		if end != nil && count(p.Came).Cmp(end) > 0 {
			break
		}
		m.runTo(count(p.Came))
		m.take(i, p)
	}
	m.runTo(end)
	return m
}

func (m *model) weight() int {
	sum := 0
	for _, p := range m.pipes {
		if len(p.queue) > 0 {
			sum += p.weight
		}
	}
	return sum
}

// take feeds it a packet.
func (m *model) take(place int, x api.Item) {
	p := m.pipes[x.Flow]
	if p == nil {
		p = &pipe{last: new(big.Rat), served: new(big.Rat)}
		m.pipes[x.Flow] = p
	}
	start := m.virtual
	if p.last.Cmp(start) > 0 {
		start = p.last
	}
	p.weight = x.Weight
	p.last = plus(start, big.NewRat(int64(x.Size), int64(x.Weight)))
	p.queue = append(p.queue, waiting{place, count(x.Size)})
	m.tags = append(m.tags, p.last)
}

// runTo lets it run on to an end; without one, till it has nothing.
func (m *model) runTo(end *big.Rat) {
	for m.weight() > 0 && (end == nil || m.moment.Cmp(end) < 0) {
		m.serve(end)
	}
	if end != nil {
		m.moment = end
	}
}

// serve lets it run for as long as no packet is done, at most to an end.
func (m *model) serve(end *big.Rat) {
	sum := m.weight()
	var long *big.Rat
	if end != nil {
		long = less(end, m.moment)
	}
	for _, p := range m.pipes {
		if len(p.queue) == 0 {
			continue
		}
		if until := part(p.queue[0].left, sum, p.weight); long == nil || until.Cmp(long) < 0 {
			long = until
		}
	}
	m.moment = plus(m.moment, long)
	m.virtual = plus(m.virtual, part(long, 1, sum))
	for _, p := range m.pipes {
		if len(p.queue) > 0 {
			m.give(p, part(long, p.weight, sum))
		}
	}
	if m.weight() == 0 {
		m.idle = append(m.idle, m.moment)
		m.virtual = new(big.Rat)
		for _, p := range m.pipes {
			p.last = new(big.Rat)
		}
	}
}

// give serves so many bytes of the first packet of a flow, which has them.
func (m *model) give(p *pipe, bytes *big.Rat) {
	p.served = plus(p.served, bytes)
	first := p.queue[0]
	first.left = less(first.left, bytes)
	if first.left.Sign() == 0 {
		m.finish[first.place] = m.moment
		p.queue = p.queue[1:]
		return
	}
	p.queue[0] = first
}

// served is how many bytes of a flow it has served so far.
func (m *model) served(flow int) *big.Rat {
	if p := m.pipes[flow]; p != nil {
		return p.served
	}
	return new(big.Rat)
}

var pool = []int{math.MinInt, -7, -1, 0, 1, 2, 3, 1000, math.MaxInt}

// shape is of which kind histories are.
type shape struct{ packets, flows, weight, size, gap, from int }

// history is one of a shape: flows that keep their weights, and come as they come.
func (n *noise) history(s shape) []api.Item {
	weights := map[int]int{}
	var l []api.Item
	came := s.from
	for range s.packets {
		flow := pool[n.below(s.flows)]
		if weights[flow] == 0 {
			weights[flow] = n.upTo(s.weight)
		}
		if n.below(3) > 0 {
			came += n.below(s.gap)
		}
		l = append(l, api.Item{Flow: flow, Weight: weights[flow], Size: 1 + n.below(s.size), Came: came})
	}
	return l
}

// histories goes through some of many shapes: crowded ones, idle ones, such in which packets come at the very moment at which nothing is left, far ones.
func histories(t *testing.T, seed noise, check func(n *noise, l []api.Item)) {
	t.Helper()
	n := seed
	for round := range 6 {
		for _, s := range []shape{
			{1, 9, 4096, 65536, 1 << 40, 0},
			{4, 2, 3, 5, 4, 0},
			{12, 3, 4, 4, 7, 0},
			{12, 1, 9, 3, 6, 5},
			{20, 4, 6, 9, 9, 0},
			{25, 9, 4096, 60, 50, 3},
			{40, 9, 50, 20, 12, 0},
			{30, 5, 4096, 65536, 40000, 1000},
			{15, 9, 1, 8, 12, 0},
			{12, 4, 100, 30, 20, api.MaxTime - 300},
		} {
			s.packets = max(1, s.packets-round)
			check(&n, n.history(s))
		}
	}
}
