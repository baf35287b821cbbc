package disc_test

import (
	"maps"
	"math"
	"slices"
	"testing"

	"millrace/api"
	"millrace/disc"
	"millrace/rat"
)

// noise gives the same words in every run.
type noise uint64

func (n *noise) word() uint64 {
	*n += 0x9e3779b97f4a7c15
	z := uint64(*n)
	z = (z ^ z>>30) * 0xbf58476d1ce4e5b9
	z = (z ^ z>>27) * 0x94d049bb133111eb
	return z ^ z>>31
}

func (n *noise) below(bound int) int { return int(n.word() % uint64(bound)) }

// one is one of a list, which must not be empty.
func one[T any](n *noise, l []T) T { return l[n.below(len(l))] }

// thing is a queued packet with its key.
type thing struct {
	key    int
	packet api.Packet
}

// model is a keyed queue as the chapter words it: one list that is gone through anew for each question.
type model struct {
	flows     map[api.Handle]api.Params
	queued    []thing // by their numbers
	seq, came int
}

func modelOf() *model { return &model{flows: map[api.Handle]api.Params{}} }

// order is all that is queued, the first of the order first.
func (m *model) order() []thing {
	l := slices.Clone(m.queued)
	slices.SortStableFunc(l, func(a, b thing) int {
		if a.key != b.key {
			if a.key < b.key {
				return -1
			}
			return 1
		}
		return a.packet.Seq - b.packet.Seq
	})
	return l
}

// of is what is queued of a flow, by numbers.
func (m *model) of(h api.Handle) []thing {
	return slices.DeleteFunc(slices.Clone(m.queued), func(x thing) bool { return x.packet.Flow != h })
}

func (m *model) drop(seq int) {
	m.queued = slices.DeleteFunc(m.queued, func(x thing) bool { return x.packet.Seq == seq })
}

func (m *model) join(h api.Handle, p api.Params) api.Errno {
	for open := range m.flows {
		if open.Slot == h.Slot {
			return api.ErrHandle
		}
	}
	m.flows[h] = p
	return api.OK
}

func (m *model) leave(h api.Handle) ([]api.Packet, api.Errno) {
	if _, ok := m.flows[h]; !ok {
		return nil, api.ErrHandle
	}
	delete(m.flows, h)
	left := packets(m.of(h))
	for _, p := range left {
		m.drop(p.Seq)
	}
	return left, api.OK
}

func (m *model) check(p api.Packet) api.Errno {
	if _, ok := m.flows[p.Flow]; !ok {
		return api.ErrHandle
	}
	if p.Size < 1 || p.Size > 65536 || p.Seq < 1 || p.Seq <= m.seq || p.Came < 0 || p.Came < m.came || p.Came > 1<<62 {
		return api.ErrArg
	}
	return api.OK
}

func (m *model) may(p api.Packet, key int) api.Errno {
	if e := m.check(p); e != api.OK {
		return e
	}
	for _, x := range m.of(p.Flow) {
		if key < x.key {
			return api.ErrArg
		}
	}
	return api.OK
}

func (m *model) put(p api.Packet, key int) api.Errno {
	if e := m.may(p, key); e != api.OK {
		return e
	}
	m.queued = append(m.queued, thing{key, p})
	m.seq, m.came = p.Seq, p.Came
	return api.OK
}

// spare looks for the worst of a model that has the new packet too, again and again.
func (m *model) spare(p api.Packet, key, need int) ([]api.Packet, api.Errno) {
	if e := m.may(p, key); e != api.OK {
		return nil, e
	}
	with := &model{queued: append(slices.Clone(m.queued), thing{key, p})}
	var found []api.Packet
	for sum := 0; sum < need; {
		l := with.order()
		worst := l[len(l)-1].packet
		if worst == p {
			return nil, api.ErrRefused
		}
		found = append(found, worst)
		with.drop(worst.Seq)
		sum += worst.Size
	}
	return found, api.OK
}

func (m *model) evict(p api.Packet) api.Errno {
	l := m.of(p.Flow)
	if len(l) == 0 || l[len(l)-1].packet.Seq != p.Seq {
		return api.ErrItem
	}
	m.drop(p.Seq)
	return api.OK
}

func (m *model) peek() (api.Packet, bool) {
	l := m.order()
	if len(l) == 0 {
		return api.Packet{}, false
	}
	return l[0].packet, true
}

func (m *model) next() (api.Packet, bool) {
	p, ok := m.peek()
	if ok {
		m.drop(p.Seq)
	}
	return p, ok
}

func (m *model) pick(seq int) (api.Packet, bool) {
	for _, x := range m.queued {
		if x.packet.Seq == seq && m.of(x.packet.Flow)[0] == x {
			m.drop(seq)
			return x.packet, true
		}
	}
	return api.Packet{}, false
}

// worst is the one of an order with n behind it.
func worst(order []thing, n int) (api.Packet, bool) {
	if n < 0 || n >= len(order) {
		return api.Packet{}, false
	}
	return order[len(order)-1-n].packet, true
}

func (m *model) weight() int {
	sum := 0
	for _, p := range m.flows {
		sum += p.Weight
	}
	return sum
}

func packets(l []thing) []api.Packet {
	var told []api.Packet
	for _, x := range l {
		told = append(told, x.packet)
	}
	return told
}

// handles are those that flows are joined with: some share a slot.
var handles = []api.Handle{{Slot: 0, Gen: 1}, {Slot: 0, Gen: 2}, {Slot: 1, Gen: 1}, {Slot: 2, Gen: 7}, {Slot: 5, Gen: 0}, {Slot: -3, Gen: -1}, {Slot: math.MaxInt, Gen: math.MinInt}}

// anyHandle is often one that is open.
func (m *model) anyHandle(n *noise) api.Handle {
	var open []api.Handle
	for _, h := range handles {
		if _, ok := m.flows[h]; ok {
			open = append(open, h)
		}
	}
	if len(open) == 0 || n.below(12) == 0 {
		return one(n, handles)
	}
	return one(n, open)
}

// anyPacket is often one that may come.
func (m *model) anyPacket(n *noise) api.Packet {
	p := api.Packet{Flow: m.anyHandle(n), ID: n.below(3), Size: 1 + n.below(9), Seq: m.seq + 1 + n.below(2)*n.below(4), Came: m.came + n.below(2)*n.below(5)}
	switch n.below(30) {
	case 0:
		p.Size = one(n, []int{0, -1, 65537, math.MaxInt, math.MinInt})
	case 1:
		p.Seq = m.seq - one(n, []int{0, 1, m.seq, m.seq + 1})
	case 2:
		p.Came = one(n, []int{m.came - 1, -1, 1<<62 + 1, math.MaxInt, math.MinInt})
	case 3:
		p.Flow = one(n, handles)
	case 4:
		p.Size = one(n, []int{1, 65536})
	}
	return p
}

// queuedPacket is often one that is queued, and often its flow's last or first one.
func (m *model) queuedPacket(n *noise) api.Packet {
	if len(m.queued) == 0 || n.below(15) == 0 {
		return m.anyPacket(n)
	}
	p := one(n, m.queued).packet
	l := m.of(p.Flow)
	switch n.below(5) {
	case 0, 1:
		p = l[len(l)-1].packet
	case 2:
		p = l[0].packet
	case 3:
		p.Flow = one(n, handles)
	}
	return p
}

// anyKey is often one that the flow's packet may have, and often another one's too.
func (m *model) anyKey(n *noise, h api.Handle) int {
	key := n.below(12)
	if l := m.of(h); len(l) > 0 && n.below(8) > 0 {
		key = l[len(l)-1].key + n.below(3)
	}
	return key
}

// subject is a keyed queue by keys of some type, made of whole numbers.
type subject[K disc.Key[K]] struct {
	*disc.Keyed[K]
	of func(int) K
}

func ticks() subject[disc.Tick] {
	return subject[disc.Tick]{disc.NewKeyed[disc.Tick](), func(key int) disc.Tick { return disc.Tick(key) }}
}

func fractions() subject[rat.Rat] {
	third := func(key int) rat.Rat { r, _ := rat.Of(key, 3); return r }
	return subject[rat.Rat]{disc.NewKeyed[rat.Rat](), third}
}

// far is a key that compares itself by other numbers than -1, 0 and 1.
type far int

func (a far) Cmp(b far) int { return 1000 * int(a-b) }

func fars() subject[far] {
	return subject[far]{disc.NewKeyed[far](), func(key int) far { return far(key) }}
}

func same(t *testing.T, what string, got, want []api.Packet, e, wantE api.Errno) {
	t.Helper()
	if !slices.Equal(got, want) || e != wantE {
		t.Fatalf("%s: %v %d, want %v %d", what, got, e, want, wantE)
	}
}

func alike(t *testing.T, what string, got api.Packet, ok bool, want api.Packet, wantOk bool) {
	t.Helper()
	if got != want || ok != wantOk {
		t.Fatalf("%s: %v %v, want %v %v", what, got, ok, want, wantOk)
	}
}

func is(t *testing.T, what string, got, want api.Errno) {
	t.Helper()
	if got != want {
		t.Fatalf("%s: %d, want %d", what, got, want)
	}
}

// flowStep asks both the same of flows.
func (s subject[K]) flowStep(t *testing.T, n *noise, m *model) {
	t.Helper()
	tick := n.below(99) - 9
	if n.below(2) == 0 {
		h, p := one(n, handles), api.Params{Weight: n.below(50) - 5, Quantum: n.below(9), Span: n.below(3)}
		is(t, "Join", s.Join(h, p, tick), m.join(h, p))
		return
	}
	h := one(n, handles)
	got, e := s.Leave(h, tick)
	want, wantE := m.leave(h)
	same(t, "Leave", got, want, e, wantE)
}

// comeStep asks both the same of a packet that comes.
func (s subject[K]) comeStep(t *testing.T, n *noise, m *model) {
	t.Helper()
	p := m.anyPacket(n)
	key := m.anyKey(n, p.Flow)
	is(t, "Check", s.Check(p), m.check(p))
	need := one(n, []int{math.MinInt, -1, 0, 1, 2, 5, 9, 14, 30, 200, 70000, math.MaxInt})
	got, e := s.Spare(p, s.of(key), need)
	want, wantE := m.spare(p, key, need)
	same(t, "Spare", got, want, e, wantE)
	if n.below(4) > 0 {
		is(t, "Put", s.Put(p, s.of(key)), m.put(p, key))
	}
}

// goStep asks both the same of a packet that goes.
func (s subject[K]) goStep(t *testing.T, n *noise, m *model) {
	t.Helper()
	switch n.below(3) {
	case 0:
		p := m.queuedPacket(n)
		is(t, "Evict", s.Evict(p), m.evict(p))
	case 1:
		got, ok := s.Next(n.below(99) - 9)
		want, wantOk := m.next()
		alike(t, "Next", got, ok, want, wantOk)
	default:
		seq := m.queuedPacket(n).Seq
		got, ok := s.Pick(seq)
		want, wantOk := m.pick(seq)
		alike(t, "Pick", got, ok, want, wantOk)
	}
}

// looks holds all that can be told without a change against the model.
func (s subject[K]) looks(t *testing.T, m *model) {
	t.Helper()
	if s.Len() != len(m.queued) || s.Weight(3) != m.weight() {
		t.Fatalf("Len %d, Weight %d, want %d, %d", s.Len(), s.Weight(3), len(m.queued), m.weight())
	}
	got, ok := s.Peek(5)
	want, wantOk := m.peek()
	alike(t, "Peek", got, ok, want, wantOk)
	order := m.order()
	for k := -2; k < len(order)+2; k++ {
		got, ok := s.Worst(k)
		want, wantOk := worst(order, k)
		alike(t, "Worst", got, ok, want, wantOk)
	}
	for _, h := range handles {
		got, e := s.Params(h)
		want, ok := m.flows[h]
		if got != want || (e == api.OK) != ok || (e == api.ErrHandle) == ok {
			t.Fatalf("Params of %v: %v %d, want %v", h, got, e, want)
		}
	}
	s.tellsAll(t, order)
}

// tellsAll holds All against an order of things.
func (s subject[K]) tellsAll(t *testing.T, order []thing) {
	t.Helper()
	var all []api.Packet
	for k, p := range s.All() {
		if len(all) == len(order) || s.of(order[len(all)].key).Cmp(k) != 0 {
			t.Fatalf("All: %v under the key %v behind %v, want %v", p, k, all, order)
		}
		all = append(all, p)
	}
	same(t, "All", all, packets(order), api.OK, api.OK)
}

// uses is a long random use, held against the model at each step. It fills and empties by turns.
func (s subject[K]) uses(t *testing.T, seed, steps int) {
	t.Helper()
	n := noise(seed)
	m := modelOf()
	for i := range steps {
		switch call := n.below(20); {
		case call == 0 || i < 6:
			s.flowStep(t, &n, m)
		case call < 8+i/50%2*6:
			s.comeStep(t, &n, m)
		default:
			s.goStep(t, &n, m)
		}
		s.looks(t, m)
	}
}

// 13.2, 13.3, 13.5, 13.7 to 13.10, by keys of several types.
func TestAgainstTheModel(t *testing.T) {
	for seed := range 12 {
		ticks().uses(t, 1308+seed, 600)
		fractions().uses(t, 2308+seed, 400)
		fars().uses(t, 3308+seed, 400)
	}
}

// 13.2 to 13.7 and 13.12: a line, behind the interface, is the model with one key.
func TestLineAgainstTheModel(t *testing.T) {
	n := noise(1312)
	for range 25 {
		l := disc.NewLine()
		var d disc.Discipline = l
		m := modelOf()
		s := subject[disc.Tick]{l.Keyed, func(int) disc.Tick { return 0 }}
		for i := range 300 {
			switch call := n.below(20); {
			case call == 0 || i < 6:
				s.flowStep(t, &n, m)
			case call < 8+i/50%2*6:
				p := m.anyPacket(&n)
				need := n.below(40) - 3
				got, e := d.Plan(p, need)
				want, wantE := m.spare(p, 0, need)
				same(t, "Plan", got, want, e, wantE)
				is(t, "Admit", d.Admit(p), m.put(p, 0))
			default:
				s.goStep(t, &n, m)
			}
			s.looks(t, m)
		}
	}
}

// The model's own flows are gone through in no order; this holds the sum apart from it.
func TestWeightOfWhateverInts(t *testing.T) {
	q := disc.NewKeyed[disc.Tick]()
	weights := map[int]int{0: math.MaxInt, 1: 7, 2: math.MinInt, 3: -7, 4: 4096}
	sum := 0
	for _, slot := range slices.Sorted(maps.Keys(weights)) {
		is(t, "Join", q.Join(api.Handle{Slot: slot}, api.Params{Weight: weights[slot]}, 0), api.OK)
		sum += weights[slot]
		if q.Weight(0) != sum {
			t.Fatalf("Weight %d, want %d", q.Weight(0), sum)
		}
	}
	for slot := range 5 {
		q.Leave(api.Handle{Slot: slot}, 0)
		sum -= weights[slot]
		if q.Weight(0) != sum {
			t.Fatalf("Weight %d, want %d", q.Weight(0), sum)
		}
	}
}
