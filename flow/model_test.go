package flow_test

import (
	"math/big"
	"slices"
	"testing"

	"millrace/api"
	"millrace/conf"
	"millrace/flow"
)

const lastTick = 1 << 62

// noise gives the same words in every run.
type noise uint64

func (n *noise) word() uint64 {
	*n += 0x9e3779b97f4a7c15
	z := uint64(*n)
	z = (z ^ z>>30) * 0xbf58476d1ce4e5b9
	z = (z ^ z>>27) * 0x94d049bb133111eb
	return z ^ z>>31
}

func (n *noise) below(bound int) int { return int(n.word() % uint64(bound)) }

// oneOf is one of these.
func oneOf[T any](n *noise, l ...T) T { return l[n.below(len(l))] }

// level is a bucket of the model.
type level struct {
	time                int
	tokens, burst, rate *big.Rat
}

func whole(n int) *big.Rat { return new(big.Rat).SetInt64(int64(n)) }

func newLevel(p api.Params, at int) *level {
	rate := new(big.Rat).SetFloat64(p.Rate)
	return &level{at, new(big.Rat), whole(p.Burst), rate.Quo(rate, whole(p.Per))}
}

// at brings it to a tick and tells what it has.
func (b *level) at(tick int) *big.Rat {
	if tick > lastTick {
		tick = lastTick
	}
	if tick > b.time {
		b.tokens.Add(b.tokens, new(big.Rat).Mul(b.rate, whole(tick-b.time)))
		b.time = tick
	}
	if b.tokens.Cmp(b.burst) > 0 {
		b.tokens.Set(b.burst)
	}
	return b.tokens
}

// has is whether there are n tokens at a tick.
func (b *level) has(tick, n int) bool { return b.at(tick).Cmp(whole(n)) >= 0 }

// wait is the first tick at which there are n.
func (b *level) wait(n int) (int, api.Errno) {
	if b.has(b.time, n) {
		return b.time, api.OK
	}
	if b.rate.Sign() == 0 || b.burst.Cmp(whole(n)) < 0 {
		return 0, api.ErrPoliced
	}
	lack := new(big.Rat).Sub(whole(n), b.tokens)
	lack.Quo(lack, b.rate)
	ticks, rest := new(big.Int).QuoRem(lack.Num(), lack.Denom(), new(big.Int))
	if rest.Sign() > 0 {
		ticks.Add(ticks, big.NewInt(1))
	}
	ticks.Add(ticks, big.NewInt(int64(b.time)))
	if ticks.Cmp(big.NewInt(lastTick)) > 0 {
		return 0, api.ErrPoliced
	}
	return int(ticks.Int64()), api.OK
}

// What became of a packet that was offered.
const (
	refused = iota
	evicted
	departed
	queued
	sending
)

// offer is a packet that was ever offered, and what became of it.
type offer struct {
	api.Packet
	fate int
}

// lane is a slot of the model: whose it is, if somebody's, and how often it was given.
type lane struct {
	open   bool
	given  int
	params api.Params
	*level
}

// model is a table that remembers every packet that was ever offered, and works out all it tells from that.
type model struct {
	conf   api.Conf
	lanes  []lane
	offers []offer
	seq    int
	came   int
}

func modelOf(c api.Conf) *model {
	c.Nodes = slices.Clone(c.Nodes)
	return &model{conf: c, lanes: make([]lane, c.Flows)}
}

// find is the lane of an open flow, nil of another handle.
func (m *model) find(h api.Handle) *lane {
	if h.Slot < 0 || h.Slot >= len(m.lanes) {
		return nil
	}
	if l := &m.lanes[h.Slot]; l.open && l.given == h.Gen {
		return l
	}
	return nil
}

// handles are those of the open flows, by rising slot.
func (m *model) handles() []api.Handle {
	var all []api.Handle
	for i, l := range m.lanes {
		if l.open {
			all = append(all, api.Handle{Slot: i, Gen: l.given})
		}
	}
	return all
}

func (m *model) open(p api.Params, at int) (api.Handle, api.Errno) {
	if e := conf.CheckFlow(m.conf, p); e != api.OK {
		return api.Handle{}, e
	}
	for i := range m.lanes {
		l := &m.lanes[i]
		if l.open {
			continue
		}
		if at < 0 || at > lastTick {
			return api.Handle{}, api.ErrArg
		}
		*l = lane{true, l.given + 1, p, newLevel(p, at)}
		return api.Handle{Slot: i, Gen: l.given}, api.OK
	}
	return api.Handle{}, api.ErrFull
}

// places are where the offers of a flow lie that are queued.
func (m *model) places(h api.Handle) []int {
	var all []int
	for i, o := range m.offers {
		if o.fate == queued && o.Flow == h {
			all = append(all, i)
		}
	}
	return all
}

// queue is what a flow has queued.
func (m *model) queue(h api.Handle) []api.Packet {
	var all []api.Packet
	for _, i := range m.places(h) {
		all = append(all, m.offers[i].Packet)
	}
	return all
}

// books counts the offers that are wanted.
func (m *model) books(wanted func(offer) bool) api.Counters {
	var c api.Counters
	kinds := []*api.Count{&c.Refused, &c.Evicted, &c.Departed, &c.Queued, &c.Sending}
	for _, o := range m.offers {
		if wanted(o) {
			for _, k := range []*api.Count{&c.Offered, kinds[o.fate]} {
				k.Packets++
				k.Bytes += o.Size
			}
		}
	}
	return c
}

func (m *model) total() api.Counters { return m.books(func(offer) bool { return true }) }

func (m *model) booksOf(h api.Handle) api.Counters {
	return m.books(func(o offer) bool { return o.Flow == h })
}

func (m *model) close(h api.Handle) ([]api.Packet, api.Counters, api.Errno) {
	l := m.find(h)
	if l == nil {
		return nil, api.Counters{}, api.ErrHandle
	}
	gone := m.queue(h)
	for _, i := range m.places(h) {
		m.offers[i].fate = evicted
	}
	l.open = false
	return gone, m.booksOf(h), api.OK
}

// sized is what is wrong with a handle and a size.
func (m *model) sized(h api.Handle, size int) api.Errno {
	switch {
	case m.find(h) == nil:
		return api.ErrHandle
	case size < 1, size > m.conf.Most:
		return api.ErrSize
	}
	return api.OK
}

func (m *model) look(h api.Handle, size, at int) api.Errno {
	if e := m.sized(h, size); e != api.OK {
		return e
	}
	if !m.find(h).has(at, size) {
		return api.ErrPoliced
	}
	return api.OK
}

func (m *model) wait(h api.Handle, size, at int) (int, api.Errno) {
	if e := m.sized(h, size); e != api.OK {
		return 0, e
	}
	m.find(h).at(at)
	return m.find(h).wait(size)
}

func (m *model) refuse(h api.Handle, size int) api.Errno {
	if e := m.sized(h, size); e != api.OK {
		return e
	}
	m.offers = append(m.offers, offer{api.Packet{Flow: h, Size: size}, refused})
	return api.OK
}

func (m *model) admit(h api.Handle, id, size, at int) (api.Packet, api.Errno) {
	if e := m.look(h, size, at); e != api.OK {
		return api.Packet{}, e
	}
	if at < 0 || at > lastTick || at < m.came {
		return api.Packet{}, api.ErrArg
	}
	b := m.find(h)
	b.tokens.Sub(b.tokens, whole(size))
	m.seq++
	m.came = at
	p := api.Packet{Flow: h, ID: id, Size: size, Seq: m.seq, Came: at}
	m.offers = append(m.offers, offer{p, queued})
	return p, api.OK
}

func (m *model) evict(h api.Handle) (api.Packet, api.Errno) {
	if m.find(h) == nil {
		return api.Packet{}, api.ErrHandle
	}
	l := m.places(h)
	if len(l) == 0 {
		return api.Packet{}, api.ErrArg
	}
	o := &m.offers[l[len(l)-1]]
	o.fate = evicted
	return o.Packet, api.OK
}

// now is the offer that is on the link, nil if none is.
func (m *model) now() *offer {
	for i := range m.offers {
		if m.offers[i].fate == sending {
			return &m.offers[i]
		}
	}
	return nil
}

func (m *model) begin(h api.Handle) (api.Packet, api.Errno) {
	if m.find(h) == nil {
		return api.Packet{}, api.ErrHandle
	}
	l := m.places(h)
	if len(l) == 0 || m.now() != nil {
		return api.Packet{}, api.ErrArg
	}
	o := &m.offers[l[0]]
	o.fate = sending
	return o.Packet, api.OK
}

func (m *model) left() (api.Packet, api.Errno) {
	o := m.now()
	if o == nil {
		return api.Packet{}, api.ErrArg
	}
	o.fate = departed
	return o.Packet, api.OK
}

func (m *model) tell(h api.Handle, at int) (api.Flow, api.Errno) {
	l := m.find(h)
	if l == nil {
		return api.Flow{}, api.ErrHandle
	}
	tokens, _ := l.at(at).Float64()
	return api.Flow{Handle: h, Params: l.params, Counters: m.booksOf(h), Tokens: tokens, Queue: m.queue(h)}, api.OK
}

func (m *model) all(at int) []api.Flow {
	var all []api.Flow
	for _, h := range m.handles() {
		f, _ := m.tell(h, at)
		all = append(all, f)
	}
	return all
}

func (m *model) weight() int {
	sum := 0
	for _, h := range m.handles() {
		sum += m.find(h).params.Weight
	}
	return sum
}

// sameFlow is whether all of two flows is the same, their numbers to the bit, and no list behind a nil.
func sameFlow(a, b api.Flow) bool {
	return a.Handle == b.Handle && a.Params == b.Params && api.Bits(a.Params.Rate) == api.Bits(b.Params.Rate) &&
		a.Counters == b.Counters && api.Bits(a.Tokens) == api.Bits(b.Tokens) &&
		slices.Equal(a.Queue, b.Queue) && len(a.Delays) == 0 && len(b.Delays) == 0 && a.Late == 0 && b.Late == 0
}

// agrees asks a table for all that it can tell without time going on: it must be what the model tells.
func agrees(t *testing.T, what string, x *flow.Table, m *model) {
	t.Helper()
	if got, want := x.Total(), m.total(); got != want {
		t.Fatalf("%s: Total %+v, want %+v", what, got, want)
	}
	hs := m.handles()
	if x.Len() != len(hs) || x.Weight() != m.weight() || x.Seq() != m.seq {
		t.Fatalf("%s: Len %d, Weight %d, Seq %d, want %d, %d, %d", what, x.Len(), x.Weight(), x.Seq(), len(hs), m.weight(), m.seq)
	}
	for _, h := range hs {
		if got, e := x.Books(h); got != m.booksOf(h) || e != api.OK {
			t.Fatalf("%s: Books(%v) %+v %v, want %+v", what, h, got, e, m.booksOf(h))
		}
		want, _ := m.tell(h, -1)
		if got, e := x.Tell(h, -1); !sameFlow(got, want) || e != api.OK {
			t.Fatalf("%s: Tell(%v) %+v %v, want %+v", what, h, got, e, want)
		}
	}
	if got, want := slices.Collect(x.All(-1)), m.all(-1); !slices.EqualFunc(got, want, sameFlow) {
		t.Fatalf("%s: All %+v, want %+v", what, got, want)
	}
}
