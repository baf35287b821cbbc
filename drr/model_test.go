package drr_test

import (
	"maps"
	"math"
	"math/big"
	"slices"
	"testing"

	"millrace/api"
	"millrace/disc"
	"millrace/drr"
)

// noise gives the same words in every run.
type noise uint64

func (n *noise) word() uint64 {
	*n += 0x9e3779b97f4a7c15
	z := uint64(*n)
	z = (z ^ z>>30) * 0xbf58476d1ce4e5b9
	z = (z ^ z>>27) * 0x94d049bb133111eb
	return z ^ z>>31
}

func (n *noise) below(bound int) int { return int(n.word() % uint64(bound)) }

// one is one of a list, which must not be empty.
func one[T any](n *noise, l []T) T { return l[n.below(len(l))] }

// member is an open flow.
type member struct{ weight, quantum, deficit int }

// model is a discipline as the chapter words it: one list that is gone through anew for each question, and turns that are taken one by one.
type model struct {
	flows     map[api.Handle]member
	ring      []api.Handle
	turn      bool
	queued    []api.Packet // by their numbers
	seq, came int
}

func modelOf() *model { return &model{flows: map[api.Handle]member{}} }

func (m *model) clone() *model {
	c := *m
	c.flows, c.ring, c.queued = maps.Clone(m.flows), slices.Clone(m.ring), slices.Clone(m.queued)
	return &c
}

// of is what of these packets is a flow's.
func of(l []api.Packet, h api.Handle) []api.Packet {
	return slices.DeleteFunc(slices.Clone(l), func(p api.Packet) bool { return p.Flow != h })
}

// without is these packets but for one.
func without(l []api.Packet, p api.Packet) []api.Packet {
	return slices.DeleteFunc(slices.Clone(l), func(x api.Packet) bool { return x.Seq == p.Seq })
}

func (m *model) join(h api.Handle, p api.Params) api.Errno {
	for open := range m.flows {
		if open.Slot == h.Slot {
			return api.ErrHandle
		}
	}
	quantum := p.Quantum
	if quantum < 1 {
		quantum = 1
	}
	if quantum > 1<<30 {
		quantum = 1 << 30
	}
	m.flows[h] = member{weight: p.Weight, quantum: quantum}
	return api.OK
}

func (m *model) leave(h api.Handle) ([]api.Packet, api.Errno) {
	if _, ok := m.flows[h]; !ok {
		return nil, api.ErrHandle
	}
	left := of(m.queued, h)
	for _, p := range left {
		m.drop(p)
	}
	delete(m.flows, h)
	return left, api.OK
}

// drop takes a packet out, and its flow out of the ring, if that was all that it had.
func (m *model) drop(p api.Packet) {
	m.queued = without(m.queued, p)
	if len(of(m.queued, p.Flow)) > 0 {
		return
	}
	if m.ring[0] == p.Flow {
		m.turn = false
	}
	m.ring = slices.DeleteFunc(slices.Clone(m.ring), func(h api.Handle) bool { return h == p.Flow })
	m.add(p.Flow, -m.flows[p.Flow].deficit)
}

// add changes a flow's deficit.
func (m *model) add(h api.Handle, bytes int) {
	f := m.flows[h]
	f.deficit += bytes
	m.flows[h] = f
}

func (m *model) check(p api.Packet) api.Errno {
	if _, ok := m.flows[p.Flow]; !ok {
		return api.ErrHandle
	}
	if p.Size < 1 || p.Size > 65536 || p.Seq < 1 || p.Seq <= m.seq || p.Came < 0 || p.Came < m.came || p.Came > 1<<62 {
		return api.ErrArg
	}
	return api.OK
}

func (m *model) admit(p api.Packet) api.Errno {
	if e := m.check(p); e != api.OK {
		return e
	}
	if !slices.Contains(m.ring, p.Flow) {
		m.ring = append(m.ring, p.Flow)
	}
	m.queued = append(m.queued, p)
	m.seq, m.came = p.Seq, p.Came
	return api.OK
}

func (m *model) evict(p api.Packet) api.Errno {
	l := of(m.queued, p.Flow)
	if len(l) == 0 || l[len(l)-1].Seq != p.Seq {
		return api.ErrItem
	}
	m.drop(l[len(l)-1])
	return api.OK
}

// next takes the turns one by one.
func (m *model) next() (api.Packet, bool) {
	if len(m.queued) == 0 {
		return api.Packet{}, false
	}
	first := map[api.Handle]api.Packet{}
	for _, p := range slices.Backward(m.queued) {
		first[p.Flow] = p
	}
	for {
		head := m.ring[0]
		if !m.turn {
			m.turn = true
			m.add(head, m.flows[head].quantum)
		}
		if p := first[head]; p.Size <= m.flows[head].deficit {
			m.add(head, -p.Size)
			m.drop(p)
			return p, true
		}
		m.ring = append(slices.Clone(m.ring[1:]), head)
		m.turn = false
	}
}

func (m *model) peek() (api.Packet, bool) { return m.clone().next() }

// worstOf is what is found the worst of these packets, which stand by their numbers.
func (m *model) worstOf(l []api.Packet) api.Packet {
	var worst api.Packet
	var most *big.Rat
	for h, f := range m.flows {
		bytes := 0
		for _, p := range of(l, h) {
			bytes += p.Size
		}
		share := big.NewRat(int64(bytes), int64(f.quantum))
		if bytes == 0 || most != nil && (share.Cmp(most) < 0 || share.Cmp(most) == 0 && h.Slot < worst.Flow.Slot) {
			continue
		}
		own := of(l, h)
		worst, most = own[len(own)-1], share
	}
	return worst
}

// plan looks for the worst, the new packet among the queued ones, again and again.
func (m *model) plan(p api.Packet, need int) ([]api.Packet, api.Errno) {
	if e := m.check(p); e != api.OK {
		return nil, e
	}
	l := append(slices.Clone(m.queued), p)
	var found []api.Packet
	for need > 0 {
		worst := m.worstOf(l)
		if worst.Seq == p.Seq {
			return nil, api.ErrRefused
		}
		found = append(found, worst)
		l = without(l, worst)
		need -= worst.Size
	}
	return found, api.OK
}

// order is all that is queued, the worst first.
func (m *model) order() []api.Packet {
	var order []api.Packet
	for l := m.queued; len(l) > 0; l = without(l, order[len(order)-1]) {
		order = append(order, m.worstOf(l))
	}
	return order
}

func (m *model) weight() int {
	sum := 0
	for _, f := range m.flows {
		sum += f.weight
	}
	return sum
}

// handles are those that the models know.
var handles = []api.Handle{
	{Slot: 0, Gen: 1}, {Slot: 1, Gen: 1}, {Slot: 2, Gen: 1}, {Slot: 3, Gen: 1},
	{Slot: 0, Gen: 2}, {Slot: 2, Gen: 2}, {Slot: -5, Gen: -1}, {Slot: math.MaxInt},
}

// anyPacket is often one that may come, and else has one thing wrong.
func (m *model) anyPacket(n *noise) api.Packet {
	p := api.Packet{Flow: one(n, handles), ID: n.below(9), Size: 1 + n.below(30), Seq: m.seq + 1 + n.below(2), Came: m.came + n.below(2)}
	if open := slices.DeleteFunc(slices.Clone(handles), func(h api.Handle) bool { return m.flows[h] == member{} }); len(open) > 0 {
		p.Flow = one(n, open)
	}
	switch n.below(40) {
	case 0:
		p.Size = one(n, []int{0, -1, 65537, math.MaxInt, math.MinInt})
	case 1:
		p.Seq = m.seq - one(n, []int{0, 1, m.seq, m.seq + 1})
	case 2:
		p.Came = one(n, []int{m.came - 1, -1, 1<<62 + 1, math.MaxInt, math.MinInt})
	case 3:
		p.Flow = one(n, handles)
	case 4:
		p.Size = one(n, []int{1, 300, 65536})
	}
	return p
}

// queuedPacket is often one that is queued, and often its flow's last or first one.
func (m *model) queuedPacket(n *noise) api.Packet {
	if len(m.queued) == 0 || n.below(15) == 0 {
		return m.anyPacket(n)
	}
	p := one(n, m.queued)
	l := of(m.queued, p.Flow)
	switch n.below(5) {
	case 0, 1, 2:
		p = l[len(l)-1]
	case 3:
		p = l[0]
	default:
		p.Flow = one(n, handles)
	}
	return p
}

func same(t *testing.T, what string, got, want []api.Packet, e, wantE api.Errno) {
	t.Helper()
	if !slices.Equal(got, want) || e != wantE {
		t.Fatalf("%s: %v %d, want %v %d", what, got, e, want, wantE)
	}
}

func alike(t *testing.T, what string, got api.Packet, ok bool, want api.Packet, wantOk bool) {
	t.Helper()
	if got != want || ok != wantOk {
		t.Fatalf("%s: %v %v, want %v %v", what, got, ok, want, wantOk)
	}
}

func is(t *testing.T, what string, got, want api.Errno) {
	t.Helper()
	if got != want {
		t.Fatalf("%s: %d, want %d", what, got, want)
	}
}

// pair is a discipline, also behind the interface, and its model, which are asked the same.
type pair struct {
	t *testing.T
	n *noise
	d *drr.DRR
	i disc.Discipline
	m *model
}

func pairOf(t *testing.T, n *noise) pair {
	d := drr.New()
	return pair{t, n, d, d, modelOf()}
}

func (x pair) join(h api.Handle, p api.Params) {
	x.t.Helper()
	is(x.t, "Join", x.i.Join(h, p, x.tick()), x.m.join(h, p))
}

func (x pair) leave(h api.Handle) {
	x.t.Helper()
	got, e := x.i.Leave(h, x.tick())
	want, wantE := x.m.leave(h)
	same(x.t, "Leave", got, want, e, wantE)
}

func (x pair) admit(p api.Packet) {
	x.t.Helper()
	is(x.t, "Admit", x.i.Admit(p), x.m.admit(p))
}

func (x pair) plan(p api.Packet, need int) {
	x.t.Helper()
	got, e := x.i.Plan(p, need)
	want, wantE := x.m.plan(p, need)
	same(x.t, "Plan", got, want, e, wantE)
}

func (x pair) evict(p api.Packet) {
	x.t.Helper()
	is(x.t, "Evict", x.i.Evict(p), x.m.evict(p))
}

func (x pair) next() {
	x.t.Helper()
	got, ok := x.i.Next(x.tick())
	want, wantOk := x.m.next()
	alike(x.t, "Next", got, ok, want, wantOk)
}

// tick is any; none changes an answer.
func (x pair) tick() int { return one(x.n, odd) }

// turns holds what is told of the ring against the model.
func (x pair) turns() {
	x.t.Helper()
	if ring := x.d.Ring(); !slices.Equal(ring, x.m.ring) {
		x.t.Fatalf("Ring: %v, want %v", ring, x.m.ring)
	}
	holder, ok := x.d.Turn()
	if ok != x.m.turn || ok && holder != x.m.ring[0] || !ok && holder != (api.Handle{}) {
		x.t.Fatalf("Turn: %v %v, want %v of %v", holder, ok, x.m.turn, x.m.ring)
	}
	for _, h := range handles {
		got, e := x.d.Deficit(h)
		f, open := x.m.flows[h]
		if got != f.deficit || (e == api.OK) != open || (e == api.ErrHandle) == open {
			x.t.Fatalf("Deficit of %v: %d %d, want %d", h, got, e, f.deficit)
		}
	}
}

// looks holds all that can be told without a change against the model.
func (x pair) looks() {
	x.t.Helper()
	if x.i.Len() != len(x.m.queued) || x.i.Weight(x.tick()) != x.m.weight() {
		x.t.Fatalf("Len %d, Weight %d, want %d, %d", x.i.Len(), x.i.Weight(0), len(x.m.queued), x.m.weight())
	}
	got, ok := x.i.Peek(x.tick())
	want, wantOk := x.m.peek()
	alike(x.t, "Peek", got, ok, want, wantOk)
	order := x.m.order()
	for k := -2; k < len(order)+2; k++ {
		want := api.Packet{}
		if 0 <= k && k < len(order) {
			want = order[k]
		}
		got, ok := x.i.Worst(k)
		alike(x.t, "Worst", got, ok, want, want.Seq > 0)
	}
	x.turns()
}

// step makes a random call, of which those that let something come have so many parts of 20.
func (x pair) step(comes int, quanta []int) {
	x.t.Helper()
	switch call := x.n.below(20); {
	case call == 0:
		x.join(one(x.n, handles), api.Params{Weight: x.n.below(50) - 5, Quantum: one(x.n, quanta), Span: x.n.below(3)})
	case call == 1 && x.n.below(3) == 0:
		x.leave(one(x.n, handles))
	case call <= comes:
		p := x.m.anyPacket(x.n)
		x.plan(p, one(x.n, []int{math.MinInt, -1, 0, 1, 2, 10, 20, 35, 60, 200, 70000, math.MaxInt}))
		if x.n.below(4) > 0 {
			x.admit(p)
		}
	case call < 12+comes/3:
		x.evict(x.m.queuedPacket(x.n))
	default:
		x.next()
	}
}

// 15.1 to 15.6, and what chapter 13 says of every discipline: long random uses, held against the model at each step. They fill and empty by turns.
func TestAgainstTheModel(t *testing.T) {
	n := noise(1501)
	for _, quanta := range [][]int{{1, 2, 3, 5, 8, 13}, {7}, {30, 60, 90, 15}, {40, 100, 1000}, {math.MinInt, -1, 0, 1, 2, 1<<30 - 1, 1 << 30, 1<<30 + 1, math.MaxInt}} {
		for range 8 {
			x := pairOf(t, &n)
			for _, h := range handles[:4] {
				x.join(h, api.Params{Weight: h.Slot, Quantum: one(&n, quanta)})
			}
			for i := range 400 {
				x.step(8+i/50%2*8, quanta)
				x.looks()
			}
		}
	}
}
