package due_test

import (
	"cmp"
	"math"
	"slices"
	"testing"

	"millrace/api"
	"millrace/disc"
	"millrace/due"
)

// queue is what both disciplines have.
type queue interface {
	disc.Discipline
	First() (int, bool)
}

// kind is a discipline, and the tick by which a packet of a flow goes that came at a tick, as the chapter words it.
type kind struct {
	name string
	make func() queue
	tick func(p api.Params, came int) int
}

// to is n, where it is from 0 to most.
func to(n, most int) int {
	if n < 0 {
		return 0
	}
	if n > most {
		return most
	}
	return n
}

func aged(name string, step int) kind {
	return kind{name, func() queue { return due.NewAge(step) }, func(p api.Params, came int) int {
		return came + to(p.Class, 15)*to(step, 1<<40)
	}}
}

var kinds = []kind{
	{"EDF", func() queue { return due.NewEDF() }, func(p api.Params, came int) int { return came + to(p.Span, 1<<40) }},
	aged("Age by 10", 10),
	aged("Age by 1", 1),
	aged("Age by nothing", 0),
	aged("Age by less than nothing", -7),
	aged("Age by the most", 1<<40),
	aged("Age by more than the most", math.MaxInt),
}

// asked is what a discipline tells of the tick of a packet.
func asked(d queue, p api.Packet) (int, api.Errno) {
	if q, ok := d.(*due.EDF); ok {
		return q.Deadline(p)
	}
	return d.(*due.Age).Key(p)
}

// noise gives the same words in every run.
type noise uint64

func (n *noise) word() uint64 {
	*n += 0x9e3779b97f4a7c15
	z := uint64(*n)
	z = (z ^ z>>30) * 0xbf58476d1ce4e5b9
	z = (z ^ z>>27) * 0x94d049bb133111eb
	return z ^ z>>31
}

func (n *noise) below(bound int) int { return int(n.word() % uint64(bound)) }

// one is one of a list, which must not be empty.
func one[T any](n *noise, l []T) T { return l[n.below(len(l))] }

// model is a discipline as the chapter words it: one list that is gone through anew for each question.
type model struct {
	kind      kind
	flows     map[api.Handle]api.Params
	queued    []api.Packet // by their numbers
	seq, came int
}

func modelOf(k kind) *model { return &model{kind: k, flows: map[api.Handle]api.Params{}} }

// of is what of these packets is a flow's.
func of(l []api.Packet, h api.Handle) []api.Packet {
	return slices.DeleteFunc(slices.Clone(l), func(p api.Packet) bool { return p.Flow != h })
}

func (m *model) drop(seq int) {
	m.queued = slices.DeleteFunc(m.queued, func(p api.Packet) bool { return p.Seq == seq })
}

func (m *model) tick(p api.Packet) int { return m.kind.tick(m.flows[p.Flow], p.Came) }

// order is these packets, the one that is next first and the worst last.
func (m *model) order(l []api.Packet) []api.Packet {
	return slices.SortedFunc(slices.Values(l), func(a, b api.Packet) int {
		return cmp.Or(cmp.Compare(m.tick(a), m.tick(b)), cmp.Compare(a.Seq, b.Seq))
	})
}

func (m *model) join(h api.Handle, p api.Params) api.Errno {
	for open := range m.flows {
		if open.Slot == h.Slot {
			return api.ErrHandle
		}
	}
	m.flows[h] = p
	return api.OK
}

func (m *model) leave(h api.Handle) ([]api.Packet, api.Errno) {
	if _, ok := m.flows[h]; !ok {
		return nil, api.ErrHandle
	}
	left := of(m.queued, h)
	for _, p := range left {
		m.drop(p.Seq)
	}
	delete(m.flows, h)
	return left, api.OK
}

// asked is Deadline, or Key.
func (m *model) asked(p api.Packet) (int, api.Errno) {
	if _, ok := m.flows[p.Flow]; !ok {
		return 0, api.ErrHandle
	}
	if p.Came < 0 || p.Came > 1<<62 {
		return 0, api.ErrArg
	}
	return m.tick(p), api.OK
}

func (m *model) check(p api.Packet) api.Errno {
	if _, ok := m.flows[p.Flow]; !ok {
		return api.ErrHandle
	}
	if p.Size < 1 || p.Size > 65536 || p.Seq < 1 || p.Seq <= m.seq || p.Came < 0 || p.Came < m.came || p.Came > 1<<62 {
		return api.ErrArg
	}
	return api.OK
}

func (m *model) admit(p api.Packet) api.Errno {
	if e := m.check(p); e != api.OK {
		return e
	}
	m.queued = append(m.queued, p)
	m.seq, m.came = p.Seq, p.Came
	return api.OK
}

// plan takes the worst of the queued ones and the new one, again and again.
func (m *model) plan(p api.Packet, need int) ([]api.Packet, api.Errno) {
	if e := m.check(p); e != api.OK {
		return nil, e
	}
	l := m.order(append(slices.Clone(m.queued), p))
	var found []api.Packet
	for need > 0 {
		worst := l[len(l)-1]
		if worst.Seq == p.Seq {
			return nil, api.ErrRefused
		}
		found = append(found, worst)
		l = l[:len(l)-1]
		need -= worst.Size
	}
	return found, api.OK
}

func (m *model) evict(p api.Packet) api.Errno {
	l := of(m.queued, p.Flow)
	if len(l) == 0 || l[len(l)-1].Seq != p.Seq {
		return api.ErrItem
	}
	m.drop(p.Seq)
	return api.OK
}

func (m *model) peek() (api.Packet, bool) {
	if len(m.queued) == 0 {
		return api.Packet{}, false
	}
	return m.order(m.queued)[0], true
}

func (m *model) next() (api.Packet, bool) {
	p, ok := m.peek()
	m.drop(p.Seq)
	return p, ok
}

func (m *model) first() (int, bool) {
	p, ok := m.peek()
	if !ok {
		return 0, false
	}
	return m.tick(p), true
}

func (m *model) late(t int) int {
	late := 0
	for _, p := range m.queued {
		if m.tick(p) < t {
			late++
		}
	}
	return late
}

func (m *model) weight() int {
	sum := 0
	for _, p := range m.flows {
		sum += p.Weight
	}
	return sum
}

// handles are those that flows are joined with: some share a slot.
var handles = []api.Handle{{Slot: 0, Gen: 1}, {Slot: 0, Gen: 2}, {Slot: 1, Gen: 1}, {Slot: 2, Gen: 7}, {Slot: 5, Gen: 0}, {}, {Slot: -3, Gen: -1}, {Slot: math.MaxInt, Gen: math.MinInt}}

// anyPacket is often one that may come, and else has one thing wrong.
func (m *model) anyPacket(n *noise) api.Packet {
	p := api.Packet{Flow: one(n, handles), ID: n.below(9), Size: 1 + n.below(9), Seq: m.seq + 1 + n.below(2)*n.below(4), Came: m.came + n.below(2)*n.below(9)}
	if open := slices.DeleteFunc(slices.Clone(handles), func(h api.Handle) bool { _, ok := m.flows[h]; return !ok }); len(open) > 0 {
		p.Flow = one(n, open)
	}
	switch n.below(30) {
	case 0:
		p.Size = one(n, []int{0, -1, 65537, math.MaxInt, math.MinInt})
	case 1:
		p.Seq = m.seq - one(n, []int{0, 1, m.seq, m.seq + 1})
	case 2:
		p.Came = one(n, []int{m.came - 1, -1, 1<<62 + 1, math.MaxInt, math.MinInt})
	case 3:
		p.Flow = one(n, handles)
	case 4:
		p.Size = one(n, []int{1, 65536})
	}
	return p
}

// queuedPacket is often one that is queued, and often its flow's last one.
func (m *model) queuedPacket(n *noise) api.Packet {
	if len(m.queued) == 0 || n.below(15) == 0 {
		return m.anyPacket(n)
	}
	p := one(n, m.queued)
	switch n.below(4) {
	case 0, 1:
		l := of(m.queued, p.Flow)
		p = l[len(l)-1]
	case 2:
		p.Flow = one(n, handles)
	}
	return p
}

func same(t *testing.T, what string, got, want []api.Packet, e, wantE api.Errno) {
	t.Helper()
	if !slices.Equal(got, want) || e != wantE {
		t.Fatalf("%s: %v %d, want %v %d", what, got, e, want, wantE)
	}
}

func alike(t *testing.T, what string, got api.Packet, ok bool, want api.Packet, wantOk bool) {
	t.Helper()
	if got != want || ok != wantOk {
		t.Fatalf("%s: %v %v, want %v %v", what, got, ok, want, wantOk)
	}
}

// pair is a discipline and its model, which are asked the same.
type pair struct {
	t *testing.T
	n *noise
	d queue
	m *model
}

// tick is any; none changes an answer.
func (x pair) tick() int { return one(x.n, odd) }

// flowStep lets a flow come or go.
func (x pair) flowStep() {
	x.t.Helper()
	h := one(x.n, handles)
	if x.n.below(3) == 0 {
		got, e := x.d.Leave(h, x.tick())
		want, wantE := x.m.leave(h)
		same(x.t, "Leave", got, want, e, wantE)
		return
	}
	p := api.Params{Weight: x.n.below(50) - 5, Quantum: x.n.below(9), Class: x.n.below(6), Span: x.n.below(40)}
	if x.n.below(6) == 0 {
		p.Class, p.Span = one(x.n, odd), one(x.n, odd)
	}
	is(x.t, "Join", x.d.Join(h, p, x.tick()), x.m.join(h, p))
}

// comeStep lets a packet come.
func (x pair) comeStep() {
	x.t.Helper()
	p := x.m.anyPacket(x.n)
	at, e := asked(x.d, p)
	want, wantE := x.m.asked(p)
	reads(x.t, "the tick of a packet", at, e, want, wantE)
	need := one(x.n, []int{math.MinInt, -1, 0, 1, 2, 5, 9, 14, 30, 200, 70000, math.MaxInt})
	got, e := x.d.Plan(p, need)
	victims, wantE := x.m.plan(p, need)
	same(x.t, "Plan", got, victims, e, wantE)
	if x.n.below(4) > 0 {
		is(x.t, "Admit", x.d.Admit(p), x.m.admit(p))
	}
}

// goStep lets a packet go.
func (x pair) goStep() {
	x.t.Helper()
	if x.n.below(2) == 0 {
		p := x.m.queuedPacket(x.n)
		is(x.t, "Evict", x.d.Evict(p), x.m.evict(p))
		return
	}
	got, ok := x.d.Next(x.tick())
	want, wantOk := x.m.next()
	alike(x.t, "Next", got, ok, want, wantOk)
}

// looks holds all that can be told without a change against the model.
func (x pair) looks() {
	x.t.Helper()
	if x.d.Len() != len(x.m.queued) || x.d.Weight(x.tick()) != x.m.weight() {
		x.t.Fatalf("Len %d, Weight %d, want %d, %d", x.d.Len(), x.d.Weight(0), len(x.m.queued), x.m.weight())
	}
	got, ok := x.d.Peek(x.tick())
	want, wantOk := x.m.peek()
	alike(x.t, "Peek", got, ok, want, wantOk)
	at, ok := x.d.First()
	first, wantOk := x.m.first()
	reads(x.t, "First", at, ok, first, wantOk)
	order := x.m.order(x.m.queued)
	slices.Reverse(order)
	for k := -2; k < len(order)+2; k++ {
		want := api.Packet{}
		if 0 <= k && k < len(order) {
			want = order[k]
		}
		got, ok := x.d.Worst(k)
		alike(x.t, "Worst", got, ok, want, want.Seq > 0)
	}
	x.lates()
}

// lates holds Late against the model, about the ticks at which it may change among others.
func (x pair) lates() {
	x.t.Helper()
	q, ok := x.d.(*due.EDF)
	if !ok {
		return
	}
	at := []int{x.tick(), x.m.came + x.n.below(50) - 5}
	if len(x.m.queued) > 0 {
		deadline := x.m.tick(one(x.n, x.m.queued))
		at = append(at, deadline-1, deadline, deadline+1)
	}
	for _, t := range at {
		if got, want := q.Late(t), x.m.late(t); got != want {
			x.t.Fatalf("Late(%d): %d, want %d", t, got, want)
		}
	}
}

// 16.1 to 16.6, and what chapter 13 says of every discipline: long random uses, held against the model at each step. They fill and empty by turns.
func TestAgainstTheModel(t *testing.T) {
	n := noise(1601)
	for _, k := range kinds {
		t.Run(k.name, func(t *testing.T) {
			for range 12 {
				x := pair{t, &n, k.make(), modelOf(k)}
				for i := range 400 {
					switch call := n.below(20); {
					case call == 0 || i < 6:
						x.flowStep()
					case call < 8+i/50%2*6:
						x.comeStep()
					default:
						x.goStep()
					}
					x.looks()
				}
			}
		})
	}
}
