package gps_test

import (
	"maps"
	"math/big"
	"slices"
	"testing"

	"millrace/api"
	"millrace/gps"
	"millrace/rat"
)

// noise gives the same words in every run.
type noise uint64

func (n *noise) word() uint64 {
	*n += 0x9e3779b97f4a7c15
	z := uint64(*n)
	z = (z ^ z>>30) * 0xbf58476d1ce4e5b9
	z = (z ^ z>>27) * 0x94d049bb133111eb
	return z ^ z>>31
}

func (n *noise) below(bound int) int { return int(n.word() % uint64(bound)) }

// upTo is a number from 1 to most, of any size.
func (n *noise) upTo(most int) int {
	return 1 + min(int(n.word()>>1>>n.below(63)), most-1)
}

func count(n int) *big.Rat { return new(big.Rat).SetInt64(int64(n)) }

func plus(a, b *big.Rat) *big.Rat { return new(big.Rat).Add(a, b) }

func less(a, b *big.Rat) *big.Rat { return new(big.Rat).Sub(a, b) }

func part(a *big.Rat, p, q int) *big.Rat { return new(big.Rat).Mul(a, big.NewRat(int64(p), int64(q))) }

func lesser(a, b *big.Rat) *big.Rat {
	if b.Cmp(a) < 0 {
		return b
	}
	return a
}

// text is a fraction in the library's form: so it is held to its lowest terms too.
func text(r rat.Rat) string {
	p, q := r.Parts()
	return p.Text() + "/" + q.Text()
}

// exact is a fraction as the library's.
func exact(t *testing.T, r rat.Rat) *big.Rat {
	t.Helper()
	x, ok := new(big.Rat).SetString(text(r))
	if !ok {
		t.Fatalf("%s is no fraction", text(r))
	}
	return x
}

// packet is one that the fluid was fed: what of it is not served yet, and how far V was when all of it was.
type packet struct {
	tag, left, reached *big.Rat
	done               *big.Rat // the moment, nil till then
}

// pipe is a flow of the model.
type pipe struct {
	weight int
	queue  []*packet
	last   *big.Rat
}

// model is a fluid that goes by bytes: what it has of a flow is the packets that are not served yet, whatever their tags are. V is reckoned beside that.
type model struct {
	time    int
	virtual *big.Rat
	pipes   map[int]*pipe
	all     []*packet
}

func modelOf() *model {
	return &model{virtual: new(big.Rat), pipes: map[int]*pipe{}}
}

func (m *model) weight() int {
	sum := 0
	for _, p := range m.pipes {
		if len(p.queue) > 0 {
			sum += p.weight
		}
	}
	return sum
}

// serve lets the fluid run from a moment for as long as no packet is done, at most to an end, and tells how long that is.
func (m *model) serve(moment, end *big.Rat) *big.Rat {
	sum := m.weight()
	long := less(end, moment)
	for _, p := range m.pipes {
		if len(p.queue) > 0 {
			long = lesser(long, part(p.queue[0].left, sum, p.weight))
		}
	}
	m.virtual = plus(m.virtual, part(long, 1, sum))
	for _, p := range m.pipes {
		if len(p.queue) > 0 {
			first := p.queue[0]
			if first.left = less(first.left, part(long, p.weight, sum)); first.left.Sign() == 0 {
				first.done, first.reached = plus(moment, long), m.virtual
				p.queue = p.queue[1:]
			}
		}
	}
	return long
}

func (m *model) advance(tick int) {
	if tick <= m.time {
		return
	}
	moment, end := count(m.time), count(tick)
	m.time = tick
	for m.weight() > 0 && moment.Cmp(end) < 0 {
		moment = plus(moment, m.serve(moment, end))
	}
	if m.weight() == 0 {
		m.virtual, m.pipes = new(big.Rat), map[int]*pipe{}
	}
}

func (m *model) has(flow int) bool { return m.pipes[flow] != nil && len(m.pipes[flow].queue) > 0 }

func (m *model) left(flow int) *big.Rat {
	sum := new(big.Rat)
	if m.has(flow) {
		for _, p := range m.pipes[flow].queue {
			sum = plus(sum, p.left)
		}
	}
	return sum
}

func (m *model) flows() []int {
	var l []int
	for _, flow := range slices.Sorted(maps.Keys(m.pipes)) {
		if m.has(flow) {
			l = append(l, flow)
		}
	}
	return l
}

// tag goes by the page's words: the greater one of V and the flow's last tag.
func (m *model) tag(flow, weight, size int) (start, tag *big.Rat, e api.Errno) {
	switch {
	case weight < 1 || weight > 4096 || m.has(flow) && m.pipes[flow].weight != weight:
		return new(big.Rat), new(big.Rat), api.ErrWeight
	case size < 1 || size > 65536:
		return new(big.Rat), new(big.Rat), api.ErrSize
	}
	start = m.virtual
	if p := m.pipes[flow]; p != nil && p.last.Cmp(start) > 0 {
		start = p.last
	}
	tag = plus(start, big.NewRat(int64(size), int64(weight)))
	if tag.Denom().BitLen() > 2048 {
		return new(big.Rat), new(big.Rat), api.ErrDeep
	}
	return start, tag, api.OK
}

func (m *model) admit(flow, weight, size int) (start, tag *big.Rat, e api.Errno) {
	start, tag, e = m.tag(flow, weight, size)
	if e != api.OK {
		return start, tag, e
	}
	if m.pipes[flow] == nil {
		m.pipes[flow] = &pipe{}
	}
	p, x := m.pipes[flow], &packet{tag: tag, left: count(size)}
	p.weight, p.last, p.queue = weight, tag, append(p.queue, x)
	m.all = append(m.all, x)
	return start, tag, api.OK
}

// is asks a fraction to be one.
func is(t *testing.T, what string, got rat.Rat, want *big.Rat) {
	t.Helper()
	if text(got) != want.String() {
		t.Fatalf("%s: %s, want %s", what, text(got), want)
	}
}

// both is a Tracker and the model of it.
type both struct {
	t *testing.T
	g *gps.Tracker
	m *model
}

func begin(t *testing.T) both { return both{t, gps.New(), modelOf()} }

// tag holds a Tag of the two against each other.
func (b both) tag(flow, weight, size int) api.Errno {
	b.t.Helper()
	start, tag, e := b.g.Tag(flow, weight, size)
	return b.told("Tag", flow, weight, size, start, tag, e, b.m.tag)
}

// admit holds an Admit of the two against each other.
func (b both) admit(flow, weight, size int) api.Errno {
	b.t.Helper()
	start, tag, e := b.g.Admit(flow, weight, size)
	return b.told("Admit", flow, weight, size, start, tag, e, b.m.admit)
}

func (b both) told(what string, flow, weight, size int, start, tag rat.Rat, e api.Errno, ask func(flow, weight, size int) (start, tag *big.Rat, e api.Errno)) api.Errno {
	b.t.Helper()
	wantStart, wantTag, want := ask(flow, weight, size)
	if e != want || text(start) != wantStart.String() || text(tag) != wantTag.String() {
		b.t.Fatalf("%s(%d, %d, %d) at %d: %s %s %v, want %s %s %v", what, flow, weight, size, b.m.time, text(start), text(tag), e, wantStart, wantTag, want)
	}
	return e
}

func (b both) advance(tick int) {
	b.t.Helper()
	b.g.Advance(tick)
	b.m.advance(tick)
}

// same holds all that is told, of these flows too, against the model.
func (b both) same(flows ...int) {
	b.t.Helper()
	if b.g.Time() != b.m.time || b.g.Weight() != b.m.weight() || !slices.Equal(b.g.Flows(), b.m.flows()) {
		b.t.Fatalf("time %d, weight %d, flows %v, want %d, %d, %v", b.g.Time(), b.g.Weight(), b.g.Flows(), b.m.time, b.m.weight(), b.m.flows())
	}
	is(b.t, "V", b.g.Virtual(), b.m.virtual)
	for _, flow := range append(flows, b.m.flows()...) {
		if b.g.Has(flow) != b.m.has(flow) {
			b.t.Fatalf("Has(%d): %v", flow, b.g.Has(flow))
		}
		is(b.t, "Left", b.g.Left(flow), b.m.left(flow))
	}
}
