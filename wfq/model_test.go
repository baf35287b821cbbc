package wfq_test

import (
	"math"
	"math/big"
	"slices"
	"testing"

	"millrace/api"
	"millrace/disc"
	"millrace/rat"
	"millrace/wfq"
)

// noise gives the same words in every run.
type noise uint64

func (n *noise) word() uint64 {
	*n += 0x9e3779b97f4a7c15
	z := uint64(*n)
	z = (z ^ z>>30) * 0xbf58476d1ce4e5b9
	z = (z ^ z>>27) * 0x94d049bb133111eb
	return z ^ z>>31
}

func (n *noise) below(bound int) int { return int(n.word() % uint64(bound)) }

// one is one of a list, which must not be empty.
func one[T any](n *noise, l []T) T { return l[n.below(len(l))] }

func count(n int) *big.Rat { return new(big.Rat).SetInt64(int64(n)) }

func plus(a, b *big.Rat) *big.Rat { return new(big.Rat).Add(a, b) }

func less(a, b *big.Rat) *big.Rat { return new(big.Rat).Sub(a, b) }

func part(a *big.Rat, p, q int) *big.Rat { return new(big.Rat).Mul(a, big.NewRat(int64(p), int64(q))) }

// pipe is a flow to the model's fluid: it goes by the bytes that are left.
type pipe struct {
	weight     int
	left, last *big.Rat
}

// thing is a queued packet with its start and its tag.
type thing struct {
	start, tag *big.Rat
	packet     api.Packet
}

// model is a discipline as the chapter words it: one list that is gone through anew for each question, and a fluid that goes by bytes.
type model struct {
	begun     bool // a WF2
	time      int
	virtual   *big.Rat
	pipes     []*pipe // of all flows that ever were
	open      map[api.Handle]*pipe
	queued    []thing // by their numbers
	seq, came int
}

func modelOf(begun bool) *model {
	return &model{begun: begun, virtual: new(big.Rat), open: map[api.Handle]*pipe{}}
}

func (m *model) fed() (l []*pipe, weight int) {
	for _, p := range m.pipes {
		if p.left.Sign() > 0 {
			l, weight = append(l, p), weight+p.weight
		}
	}
	return l, weight
}

// hand brings the time on to a tick that a call is handed.
func (m *model) hand(tick int) {
	if tick <= m.time {
		return
	}
	rest := less(count(tick), count(m.time))
	m.time = tick
	for l, weight := m.fed(); len(l) > 0 && rest.Sign() > 0; l, weight = m.fed() {
		long := rest
		for _, p := range l {
			if until := part(p.left, weight, p.weight); until.Cmp(long) < 0 {
				long = until
			}
		}
		for _, p := range l {
			p.left = less(p.left, part(long, p.weight, weight))
		}
		m.virtual = plus(m.virtual, part(long, 1, weight))
		rest = less(rest, long)
	}
	if l, _ := m.fed(); len(l) == 0 {
		m.virtual = new(big.Rat)
	}
}

func (m *model) join(h api.Handle, p api.Params, tick int) api.Errno {
	m.hand(tick)
	for open := range m.open {
		if open.Slot == h.Slot {
			return api.ErrHandle
		}
	}
	weight := p.Weight
	if weight < 1 {
		weight = 1
	}
	if weight > 4096 {
		weight = 4096
	}
	m.open[h] = &pipe{weight: weight, left: new(big.Rat)}
	m.pipes = append(m.pipes, m.open[h])
	return api.OK
}

// of is what is queued of a flow, by numbers.
func (m *model) of(h api.Handle) []thing {
	return slices.DeleteFunc(slices.Clone(m.queued), func(x thing) bool { return x.packet.Flow != h })
}

func (m *model) drop(seq int) {
	m.queued = slices.DeleteFunc(m.queued, func(x thing) bool { return x.packet.Seq == seq })
}

func (m *model) leave(h api.Handle, tick int) ([]api.Packet, api.Errno) {
	m.hand(tick)
	if m.open[h] == nil {
		return nil, api.ErrHandle
	}
	delete(m.open, h)
	var left []api.Packet
	for _, x := range m.of(h) {
		left = append(left, x.packet)
		m.drop(x.packet.Seq)
	}
	return left, api.OK
}

// tags are the start and the tag of a packet that comes, or nil and nil.
func (m *model) tags(p api.Packet) (start, tag *big.Rat, e api.Errno) {
	m.hand(p.Came)
	f := m.open[p.Flow]
	if f == nil {
		return nil, nil, api.ErrHandle
	}
	if p.Size < 1 || p.Size > 65536 || p.Seq < 1 || p.Seq <= m.seq || p.Came < 0 || p.Came < m.came || p.Came > 1<<62 {
		return nil, nil, api.ErrArg
	}
	start = m.virtual
	if f.left.Sign() > 0 {
		start = f.last
	}
	tag = plus(start, big.NewRat(int64(p.Size), int64(f.weight)))
	if tag.Denom().BitLen() > 2048 {
		return nil, nil, api.ErrDeep
	}
	for _, x := range m.of(p.Flow) {
		if tag.Cmp(x.tag) < 0 {
			return nil, nil, api.ErrArg
		}
	}
	return start, tag, api.OK
}

func (m *model) admit(p api.Packet) api.Errno {
	start, tag, e := m.tags(p)
	if e != api.OK {
		return e
	}
	f := m.open[p.Flow]
	f.left, f.last = plus(f.left, count(p.Size)), tag
	m.queued = append(m.queued, thing{start, tag, p})
	m.seq, m.came = p.Seq, p.Came
	return api.OK
}

// sorted is a list by tags, and by numbers where these are alike.
func sorted(l []thing) []thing {
	return slices.SortedStableFunc(slices.Values(l), func(a, b thing) int {
		if c := a.tag.Cmp(b.tag); c != 0 {
			return c
		}
		return a.packet.Seq - b.packet.Seq
	})
}

// plan looks for the worst of a list that has the new packet too, again and again.
func (m *model) plan(p api.Packet, need int) ([]api.Packet, api.Errno) {
	start, tag, e := m.tags(p)
	if e != api.OK {
		return nil, e
	}
	order := sorted(append(slices.Clone(m.queued), thing{start, tag, p}))
	var found []api.Packet
	for sum := 0; sum < need; {
		worst := order[len(order)-1].packet
		if worst == p {
			return nil, api.ErrRefused
		}
		found, order = append(found, worst), order[:len(order)-1]
		sum += worst.Size
	}
	return found, api.OK
}

func (m *model) evict(p api.Packet) api.Errno {
	l := m.of(p.Flow)
	if len(l) == 0 || l[len(l)-1].packet.Seq != p.Seq {
		return api.ErrItem
	}
	m.drop(p.Seq)
	return api.OK
}

func (m *model) peek(tick int) (api.Packet, bool) {
	m.hand(tick)
	if len(m.queued) == 0 {
		return api.Packet{}, false
	}
	var began []thing
	for h := range m.open {
		if l := m.of(h); len(l) > 0 && l[0].start.Cmp(m.virtual) <= 0 {
			began = append(began, l[0])
		}
	}
	if !m.begun || len(began) == 0 {
		began = m.queued
	}
	return sorted(began)[0].packet, true
}

func (m *model) next(tick int) (api.Packet, bool) {
	p, ok := m.peek(tick)
	if ok {
		m.drop(p.Seq)
	}
	return p, ok
}

func (m *model) worst(n int) (api.Packet, bool) {
	if n < 0 || n >= len(m.queued) {
		return api.Packet{}, false
	}
	return sorted(m.queued)[len(m.queued)-1-n].packet, true
}

func (m *model) weight(tick int) int {
	m.hand(tick)
	sum := 0
	for _, p := range m.pipes {
		if p.left.Sign() > 0 {
			sum += p.weight
		}
	}
	for _, p := range m.open {
		if p.left.Sign() == 0 {
			sum += p.weight
		}
	}
	return sum
}

func (m *model) fluid(tick int) *big.Rat {
	m.hand(tick)
	sum := new(big.Rat)
	for _, p := range m.pipes {
		sum = plus(sum, p.left)
	}
	return sum
}

// queue is what both disciplines can do.
type queue interface {
	disc.Discipline
	Tags(p api.Packet) (rat.Rat, rat.Rat, api.Errno)
	Virtual(t int) rat.Rat
	Fluid(t int) rat.Rat
}

// kinds are the two disciplines.
var kinds = []struct {
	name  string
	make  func() queue
	begun bool
}{
	{"WFQ", func() queue { return wfq.New() }, false},
	{"WF2", func() queue { return wfq.New2() }, true},
}

// each runs a test of both disciplines.
func each(t *testing.T, test func(t *testing.T, d queue, begun bool)) {
	t.Helper()
	for _, k := range kinds {
		t.Run(k.name, func(t *testing.T) { test(t, k.make(), k.begun) })
	}
}

func is(t *testing.T, what string, got, want api.Errno) {
	t.Helper()
	if got != want {
		t.Fatalf("%s: %d, want %d", what, got, want)
	}
}

func same(t *testing.T, what string, got, want []api.Packet, e, wantE api.Errno) {
	t.Helper()
	if !slices.Equal(got, want) || e != wantE {
		t.Fatalf("%s: %v %d, want %v %d", what, got, e, want, wantE)
	}
}

func alike(t *testing.T, what string, got api.Packet, ok bool, want api.Packet, wantOk bool) {
	t.Helper()
	if got != want || ok != wantOk {
		t.Fatalf("%s: %v %v, want %v %v", what, got, ok, want, wantOk)
	}
}

// text is a fraction in the library's form: so it is held to its lowest terms too.
func text(r rat.Rat) string {
	p, q := r.Parts()
	return p.Text() + "/" + q.Text()
}

func equal(t *testing.T, what string, got rat.Rat, want *big.Rat) {
	t.Helper()
	if text(got) != want.String() {
		t.Fatalf("%s: %s, want %s", what, text(got), want)
	}
}

// handles are those that flows are joined with: some share a slot.
var handles = []api.Handle{{Slot: 0, Gen: 1}, {Slot: 0, Gen: 2}, {Slot: 1, Gen: 1}, {Slot: 2, Gen: 7}, {Slot: 5, Gen: 0}, {Slot: -3, Gen: -1}, {Slot: math.MaxInt, Gen: math.MinInt}}

// anyHandle is often one that is open.
func (m *model) anyHandle(n *noise) api.Handle {
	var open []api.Handle
	for _, h := range handles {
		if m.open[h] != nil {
			open = append(open, h)
		}
	}
	if len(open) == 0 || n.below(12) == 0 {
		return one(n, handles)
	}
	return one(n, open)
}

// anyTick is often the time or a little later, now and then an earlier one or one at which the fluid is empty.
func (m *model) anyTick(n *noise) int {
	switch n.below(12) {
	case 0:
		return one(n, []int{m.time - 3, 0, -1, math.MinInt})
	case 1:
		if n.below(6) == 0 {
			return m.time + 200
		}
		return m.time + n.below(30)
	case 2, 3, 4:
		return m.time + n.below(6)
	}
	return m.time
}

// anyPacket is often one that may come.
func (m *model) anyPacket(n *noise) api.Packet {
	p := api.Packet{Flow: m.anyHandle(n), ID: n.below(3), Size: 1 + n.below(9), Seq: m.seq + 1 + n.below(2)*n.below(4), Came: max(m.came, m.anyTick(n))}
	switch n.below(30) {
	case 0:
		p.Size = one(n, []int{0, -1, 65537, math.MaxInt, math.MinInt})
	case 1:
		p.Seq = m.seq - one(n, []int{0, 1, m.seq, m.seq + 1})
	case 2:
		p.Came = one(n, []int{m.came - 1, -1, math.MinInt})
	case 3:
		p.Flow = one(n, handles)
	}
	return p
}

// queuedPacket is often one that is queued, and often its flow's last one.
func (m *model) queuedPacket(n *noise) api.Packet {
	if len(m.queued) == 0 || n.below(15) == 0 {
		return m.anyPacket(n)
	}
	p := one(n, m.queued).packet
	if n.below(3) > 0 {
		l := m.of(p.Flow)
		p = l[len(l)-1].packet
	}
	if n.below(9) == 0 {
		p.Flow = one(n, handles)
	}
	return p
}

// pair is a discipline and its model, which are asked the same.
type pair struct {
	t *testing.T
	d queue
	m *model
}

func (x pair) join(h api.Handle, weight, tick int) {
	x.t.Helper()
	p := api.Params{Weight: weight, Quantum: 3}
	is(x.t, "Join", x.d.Join(h, p, tick), x.m.join(h, p, tick))
}

func (x pair) leave(h api.Handle, tick int) {
	x.t.Helper()
	got, e := x.d.Leave(h, tick)
	want, wantE := x.m.leave(h, tick)
	same(x.t, "Leave", got, want, e, wantE)
}

func (x pair) admit(p api.Packet) api.Errno {
	x.t.Helper()
	e := x.d.Admit(p)
	is(x.t, "Admit", e, x.m.admit(p))
	return e
}

func (x pair) plan(p api.Packet, need int) {
	x.t.Helper()
	got, e := x.d.Plan(p, need)
	want, wantE := x.m.plan(p, need)
	same(x.t, "Plan", got, want, e, wantE)
}

func (x pair) evict(p api.Packet) {
	x.t.Helper()
	is(x.t, "Evict", x.d.Evict(p), x.m.evict(p))
}

func (x pair) next(tick int) (api.Packet, bool) {
	x.t.Helper()
	got, ok := x.d.Next(tick)
	want, wantOk := x.m.next(tick)
	alike(x.t, "Next", got, ok, want, wantOk)
	return got, ok
}

func (x pair) peek(tick int) {
	x.t.Helper()
	got, ok := x.d.Peek(tick)
	want, wantOk := x.m.peek(tick)
	alike(x.t, "Peek", got, ok, want, wantOk)
}

func (x pair) tags(p api.Packet) api.Errno {
	x.t.Helper()
	start, tag, e := x.d.Tags(p)
	wantS, wantT, wantE := x.m.tags(p)
	is(x.t, "Tags", e, wantE)
	if e != api.OK {
		wantS, wantT = new(big.Rat), new(big.Rat)
	}
	equal(x.t, "Tags: the start", start, wantS)
	equal(x.t, "Tags: the tag", tag, wantT)
	return e
}

// look holds against the model all that is told at a tick.
func (x pair) look(n *noise, tick int) {
	x.t.Helper()
	switch n.below(4) {
	case 0:
		if got, want := x.d.Weight(tick), x.m.weight(tick); got != want {
			x.t.Fatalf("Weight: %d, want %d", got, want)
		}
	case 1:
		x.m.hand(tick)
		equal(x.t, "Virtual", x.d.Virtual(tick), x.m.virtual)
	case 2:
		equal(x.t, "Fluid", x.d.Fluid(tick), x.m.fluid(tick))
	case 3:
		x.peek(tick)
	}
}

// step asks both the same.
func (x pair) step(n *noise) {
	x.t.Helper()
	switch k := n.below(40); {
	case k < 3:
		x.join(one(n, handles), one(n, []int{-4, 0, 1, 1, 2, 3, 5, 7, 4096, 9999}), x.m.anyTick(n))
	case k < 4:
		x.leave(one(n, handles), x.m.anyTick(n))
	case k < 15:
		x.admit(x.m.anyPacket(n))
	case k < 18:
		x.plan(x.m.anyPacket(n), n.below(40)-4)
	case k < 21:
		x.evict(x.m.queuedPacket(n))
	case k < 25:
		x.next(x.m.anyTick(n))
	case k < 28:
		x.tags(x.m.anyPacket(n))
	case k < 30:
		i := n.below(len(x.m.queued)+3) - 1
		got, ok := x.d.Worst(i)
		want, wantOk := x.m.worst(i)
		alike(x.t, "Worst", got, ok, want, wantOk)
	default:
		x.look(n, x.m.anyTick(n))
	}
	if x.d.Len() != len(x.m.queued) {
		x.t.Fatalf("Len: %d, want %d", x.d.Len(), len(x.m.queued))
	}
}

// 14.1 to 14.7: whatever is asked, in whatever order.
func TestAgainstTheModel(t *testing.T) {
	for _, k := range kinds {
		t.Run(k.name, func(t *testing.T) {
			n := noise(14)
			for range 400 {
				x := pair{t, k.make(), modelOf(k.begun)}
				for range 300 {
					x.step(&n)
				}
			}
		})
	}
}
