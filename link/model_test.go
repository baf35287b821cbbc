package link_test

import (
	"maps"
	"math"
	"slices"
	"testing"

	"millrace/api"
	"millrace/disc"
	"millrace/drr"
	"millrace/due"
	"millrace/link"
	"millrace/tree"
	"millrace/wfq"
)

// noise gives the same words in every run.
type noise uint64

func (n *noise) word() uint64 {
	*n += 0x9e3779b97f4a7c15
	z := uint64(*n)
	z = (z ^ z>>30) * 0xbf58476d1ce4e5b9
	z = (z ^ z>>27) * 0x94d049bb133111eb
	return z ^ z>>31
}

func (n *noise) below(bound int) int { return int(n.word() % uint64(bound)) }

// one is one of a list, which must not be empty.
func one[T any](n *noise, l []T) T { return l[n.below(len(l))] }

// kinds are all kinds of disciplines.
var kinds = []int{api.WFQ, api.DRR, api.EDF, api.AGE, api.WF2, api.TREE}

// disciplineOf is a discipline of a set-up's kind.
func disciplineOf(c api.Conf) disc.Discipline {
	switch c.Kind {
	case api.WFQ:
		return wfq.New()
	case api.WF2:
		return wfq.New2()
	case api.DRR:
		return drr.New()
	case api.EDF:
		return due.NewEDF()
	case api.AGE:
		return due.NewAge(c.Age)
	}
	x, _ := tree.New(c.Nodes)
	return x
}

// model is a link as the chapter words it: time goes tick by tick, and bytes are counted anew for each question.
type model struct {
	d      disc.Discipline
	conf   api.Conf
	flows  map[api.Handle]bool
	queued []api.Packet
	now    []api.Departure // the packet on the link, if there is one
	time   int
}

func modelOf(c api.Conf) *model {
	return &model{d: disciplineOf(c), conf: c, flows: map[api.Handle]bool{}}
}

// happens does what happens at a tick: what has its stamp there leaves, and what is next begins, if packets are chosen now.
func (m *model) happens(chosen bool) (began []api.Packet, left []api.Departure) {
	if len(m.now) > 0 && m.now[0].Left == m.time {
		left, m.now = m.now, nil
	}
	if !chosen || len(m.now) > 0 || len(m.queued) == 0 {
		return nil, left
	}
	p, _ := m.d.Next(m.time)
	m.drop(p)
	m.now = []api.Departure{{Packet: p, Began: m.time, Left: m.time + p.Size}}
	return []api.Packet{p}, left
}

func (m *model) replay(t int, poll bool) (began []api.Packet, left []api.Departure) {
	for ; m.time < t; m.time++ {
		x, y := m.happens(true)
		began, left = append(began, x...), append(left, y...)
	}
	x, y := m.happens(poll)
	return append(began, x...), append(left, y...)
}

func (m *model) drop(p api.Packet) {
	m.queued = slices.DeleteFunc(slices.Clone(m.queued), func(x api.Packet) bool { return x.Seq == p.Seq })
}

func (m *model) bytes() int {
	sum := sizes(m.queued)
	for _, d := range m.now {
		sum += d.Size
	}
	return sum
}

func (m *model) join(h api.Handle, p api.Params) api.Errno {
	e := m.d.Join(h, p, m.time)
	if e == api.OK {
		m.flows[h] = true
	}
	return e
}

func (m *model) leave(h api.Handle) ([]api.Packet, api.Errno) {
	left, e := m.d.Leave(h, m.time)
	for _, p := range left {
		m.drop(p)
	}
	if e == api.OK {
		delete(m.flows, h)
	}
	return left, e
}

func (m *model) offer(p api.Packet) ([]api.Packet, api.Errno) {
	switch {
	case !m.flows[p.Flow]:
		return nil, api.ErrHandle
	case p.Size < 1 || p.Size > m.conf.Most:
		return nil, api.ErrSize
	case p.Came != m.time:
		return nil, api.ErrArg
	}
	gone, e := m.d.Plan(p, m.bytes()+p.Size-m.conf.Room)
	if e != api.OK {
		return nil, e
	}
	for _, victim := range gone {
		m.d.Evict(victim)
		m.drop(victim)
	}
	m.d.Admit(p)
	m.queued = append(m.queued, p)
	return gone, api.OK
}

// due is the first tick at which a Poll would tell something.
func (m *model) due() (int, bool) {
	if len(m.now) > 0 {
		return m.now[0].Left, true
	}
	if len(m.queued) > 0 {
		return m.time, true
	}
	return 0, false
}

func sizes(l []api.Packet) int {
	sum := 0
	for _, p := range l {
		sum += p.Size
	}
	return sum
}

func is(t *testing.T, what string, got, want api.Errno) {
	t.Helper()
	if got != want {
		t.Fatalf("%s: %d, want %d", what, got, want)
	}
}

func same[T comparable](t *testing.T, what string, got, want []T, e, wantE api.Errno) {
	t.Helper()
	if !slices.Equal(got, want) || e != wantE {
		t.Fatalf("%s: %v %d, want %v %d", what, got, e, want, wantE)
	}
}

// reads holds a thing and what stands beside it against those that they should be.
func reads[V, E comparable](t *testing.T, what string, got V, e E, want V, wantE E) {
	t.Helper()
	if got != want || e != wantE {
		t.Fatalf("%s: %v %v, want %v %v", what, got, e, want, wantE)
	}
}

// handles are those that the models know.
var handles = []api.Handle{
	{Slot: 0, Gen: 1}, {Slot: 1, Gen: 1}, {Slot: 2, Gen: 1}, {Slot: 3, Gen: 1}, {Slot: 4, Gen: 1},
	{Slot: 0, Gen: 2}, {Slot: 2, Gen: 2}, {Slot: -5, Gen: -1}, {Slot: math.MaxInt},
}

// anyConf is a set-up of a kind, with a small buffer.
func anyConf(n *noise, kind int) api.Conf {
	c := api.Conf{Kind: kind, Most: 5 + n.below(30), Cap: 4096, Flows: 256}
	c.Room = c.Most + n.below(60)
	switch kind {
	case api.AGE:
		c.Age = n.below(20)
	case api.TREE:
		c.Nodes = []api.Node{{Kind: api.TREE}, {Kind: api.TREE, Quantum: 1 + n.below(20)}}
		for i := range 5 {
			c.Nodes = append(c.Nodes, api.Node{Kind: i + 1, Parent: n.below(2), Quantum: 1 + n.below(20)})
		}
		c.Nodes = append(c.Nodes, api.Node{Kind: api.DRR, Parent: 1, Quantum: 1})
	}
	return c
}

// anyParams are a flow's.
func anyParams(n *noise, c api.Conf) api.Params {
	p := api.Params{Weight: 1 + n.below(9), Quantum: 1 + n.below(30), Class: n.below(5), Span: n.below(60)}
	if c.Kind == api.TREE {
		p.Node = 2 + n.below(len(c.Nodes)-2)
	}
	return p
}

// pair is a link and its model, which are asked the same.
type pair struct {
	t *testing.T
	n *noise
	l *link.Link
	m *model
}

func pairOf(t *testing.T, n *noise, kind int) pair {
	t.Helper()
	c := anyConf(n, kind)
	l, e := link.New(c)
	is(t, "New", e, api.OK)
	return pair{t, n, l, modelOf(c)}
}

func (x pair) replay(t int, poll bool) {
	x.t.Helper()
	began, left := x.l.Replay(t, poll)
	wantBegan, wantLeft := x.m.replay(t, poll)
	same(x.t, "what began", began, wantBegan, api.OK, api.OK)
	same(x.t, "what left", left, wantLeft, api.OK, api.OK)
}

// looks holds all that can be told without a change against the model.
func (x pair) looks() {
	x.t.Helper()
	if x.l.Time() != x.m.time || x.l.Bytes() != x.m.bytes() || x.l.Len() != len(x.m.queued) {
		x.t.Fatalf("Time %d, Bytes %d, Len %d, want %d, %d, %d", x.l.Time(), x.l.Bytes(), x.l.Len(), x.m.time, x.m.bytes(), len(x.m.queued))
	}
	if got, want := x.l.Weight(), x.m.d.Weight(x.m.time); got != want {
		x.t.Fatalf("Weight: %d, want %d", got, want)
	}
	now, busy := x.l.Now()
	want := api.Departure{}
	for _, d := range x.m.now {
		want = d
	}
	reads(x.t, "Now", now, busy, want, len(x.m.now) > 0)
	due, ok := x.l.Due()
	wantDue, wantOk := x.m.due()
	reads(x.t, "Due", due, ok, wantDue, wantOk)
}

// packet is often one that may come, and else has one thing wrong.
func (x pair) packet(seq int) api.Packet {
	n, m := x.n, x.m
	p := api.Packet{Flow: one(n, handles), ID: n.below(9), Size: 1 + n.below(m.conf.Most), Seq: seq, Came: m.time}
	open := slices.SortedFunc(maps.Keys(m.flows), func(a, b api.Handle) int { return a.Slot - b.Slot })
	if len(open) > 0 {
		p.Flow = one(n, open)
	}
	switch n.below(40) {
	case 0:
		p.Size = one(n, []int{0, -1, m.conf.Most, m.conf.Most + 1, 65537, math.MaxInt, math.MinInt})
	case 1:
		p.Seq = seq - one(n, []int{1, 2, seq, seq + 1})
	case 2:
		p.Came = one(n, []int{m.time - 1, m.time + 1, -1, math.MaxInt, math.MinInt})
	case 3:
		p.Flow = one(n, handles)
	}
	return p
}

// step makes a random call. Packets come more often than they can be sent, or more seldom.
func (x pair) step(seq, ticks int) {
	x.t.Helper()
	switch call := x.n.below(24); {
	case call == 0:
		h, p := one(x.n, handles), anyParams(x.n, x.m.conf)
		is(x.t, "Join", x.l.Join(h, p), x.m.join(h, p))
	case call == 1 && x.n.below(3) == 0:
		h := one(x.n, handles)
		got, e := x.l.Leave(h)
		want, wantE := x.m.leave(h)
		same(x.t, "Leave", got, want, e, wantE)
	case call < 14:
		p := x.packet(seq)
		got, e := x.l.Offer(p)
		want, wantE := x.m.offer(p)
		same(x.t, "Offer", got, want, e, wantE)
	default:
		t := x.m.time + one(x.n, []int{-x.m.time - 5, -3, 0, 0, 1, 2, x.n.below(ticks)})
		x.replay(t, x.n.below(2) == 0)
	}
}

// 17.7 to 17.13, of each kind: long random uses, held against the model at each step.
func TestAgainstTheModel(t *testing.T) {
	n := noise(1707)
	for _, kind := range kinds {
		for round := range 24 {
			x := pairOf(t, &n, kind)
			for _, h := range handles[:5] {
				p := anyParams(&n, x.m.conf)
				is(t, "Join", x.l.Join(h, p), x.m.join(h, p))
			}
			for seq := 1; seq <= 500; seq++ {
				x.step(seq, 5+round%4*20)
				x.looks()
			}
		}
	}
}
