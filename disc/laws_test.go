package disc_test

import (
	"math"
	"slices"
	"testing"

	"millrace/api"
	"millrace/disc"
)

// odd are ints that no call must stumble over.
var odd = []int{math.MinInt, math.MinInt + 1, -1, 0, 1, 2, 65536, 65537, 1 << 62, 1<<62 + 1, math.MaxInt - 1, math.MaxInt}

// filled is a queue by ticks, with its model, in which so many packets of the flows A, B and C lie.
func filled(t *testing.T, n *noise, many int) (subject[disc.Tick], *model) {
	t.Helper()
	s, m := ticks(), modelOf()
	for _, h := range []api.Handle{a, b, c} {
		s.Join(h, api.Params{Weight: h.Slot}, 0)
		m.join(h, api.Params{Weight: h.Slot})
	}
	for range many {
		p := pk(one(n, []api.Handle{a, b, c}), 1+n.below(9), m.seq+1, 0)
		key := m.anyKey(n, p.Flow)
		is(t, "Put", s.Put(p, disc.Tick(key)), m.put(p, key))
	}
	return s, m
}

// 13.1: a keyed queue goes by its keys, whatever ticks it is handed, and Peek tells what Next tells.
func TestTicksChangeNothing(t *testing.T) {
	n := noise(131)
	x, y := lineOf(t), lineOf(t)
	seq := 0
	for range 400 {
		tick := one(&n, odd)
		switch h := one(&n, []api.Handle{a, b, c}); n.below(6) {
		case 0:
			is(t, "Join", x.Join(h, api.Params{Weight: 1}, tick), y.Join(h, api.Params{Weight: 1}, 0))
		case 1:
			l, e := x.Leave(h, tick)
			want, wantE := y.Leave(h, 0)
			same(t, "Leave", l, want, e, wantE)
		case 2:
			p, ok := x.Peek(tick)
			want, wantOk := y.Peek(0)
			alike(t, "Peek", p, ok, want, wantOk)
			p, ok = x.Next(tick)
			alike(t, "Next behind Peek", p, ok, want, wantOk)
			y.Next(0)
		default:
			seq++
			is(t, "Admit", x.Admit(pk(h, 1, seq, 0)), y.Admit(pk(h, 1, seq, 0)))
		}
		if x.Weight(tick) != y.Weight(0) || x.Len() != y.Len() {
			t.Fatalf("Weight %d, Len %d, want %d, %d", x.Weight(tick), x.Len(), y.Weight(0), y.Len())
		}
	}
}

// 13.5, 13.14: what is told can be evicted in its order, is enough, and would not be without its last one; for more it goes on.
func TestPlansGoOn(t *testing.T) {
	n := noise(1314)
	for range 300 {
		s, m := filled(t, &n, n.below(25))
		p := pk(one(&n, []api.Handle{a, b, c}), 1, m.seq+1, 0)
		key := disc.Tick(m.anyKey(&n, p.Flow))
		if s.Put(p, key) != api.OK {
			continue
		}
		s.Evict(p)
		p.Seq++
		var last []api.Packet
		need := 1
		for ; ; need++ {
			l, e := s.Spare(p, key, need)
			if e == api.ErrRefused {
				break
			}
			is(t, "Spare", e, api.OK)
			if len(l) < len(last) || !slices.Equal(l[:len(last)], last) {
				t.Fatalf("Spare for %d: %v behind %v", need, l, last)
			}
			if sum := sizes(l); sum < need || sum-l[len(l)-1].Size >= need {
				t.Fatalf("Spare for %d: %v", need, l)
			}
			last = l
		}
		if sizes(last) != need-1 {
			t.Fatalf("refused for %d, with %v found", need, last)
		}
		for _, victim := range last {
			is(t, "Evict of what was told", s.Evict(victim), api.OK)
		}
		l, e := s.Spare(p, key, 1)
		refuses(t, "Spare behind all that was told", l, e, api.ErrRefused)
	}
}

func sizes(l []api.Packet) int {
	sum := 0
	for _, p := range l {
		sum += p.Size
	}
	return sum
}

// 13.14: the worst ones are all that is queued, each once, of each flow by falling numbers; evicted in that order they are gone.
func TestTheWorstAreAll(t *testing.T) {
	n := noise(13141)
	for range 60 {
		s, m := filled(t, &n, n.below(40))
		var told []api.Packet
		last := map[api.Handle]int{}
		for k := range len(m.queued) {
			p, ok := s.Worst(k)
			if before := last[p.Flow]; !ok || before != 0 && p.Seq >= before {
				t.Fatalf("Worst(%d): %v %v behind the number %d", k, p, ok, before)
			}
			last[p.Flow] = p.Seq
			told = append(told, p)
		}
		for _, p := range told {
			worst, _ := s.Worst(0)
			alike(t, "Worst(0)", worst, true, p, true)
			is(t, "Evict", s.Evict(p), api.OK)
		}
		if s.Len() != 0 || len(told) != len(m.queued) {
			t.Fatalf("%d are left of %d, %d were told", s.Len(), len(m.queued), len(told))
		}
	}
}

// 13.13: each comes out once, by whatever call, and of a flow the numbers that Next tells rise.
func TestEachComesOutOnce(t *testing.T) {
	n := noise(1313)
	for range 60 {
		s, m := filled(t, &n, 60)
		out := map[int]int{}
		last := map[api.Handle]int{}
		for s.Len() > 0 {
			switch k := n.below(40); {
			case k == 0:
				h := one(&n, []api.Handle{a, b, c})
				l, _ := s.Leave(h, 0)
				for _, p := range l {
					out[p.Seq]++
				}
			case k < 13:
				p, _ := s.Worst(0)
				is(t, "Evict", s.Evict(p), api.OK)
				out[p.Seq]++
			case k < 26:
				if p, ok := s.Pick(1 + n.below(60)); ok {
					out[p.Seq]++
				}
			default:
				p, ok := s.Next(0)
				if !ok || p.Seq <= last[p.Flow] {
					t.Fatalf("Next: %v %v behind the number %d", p, ok, last[p.Flow])
				}
				last[p.Flow] = p.Seq
				out[p.Seq]++
			}
		}
		for _, x := range m.queued {
			if out[x.packet.Seq] != 1 {
				t.Fatalf("%v came out %d times", x.packet, out[x.packet.Seq])
			}
		}
		if len(out) != len(m.queued) {
			t.Fatalf("%d came out of %d", len(out), len(m.queued))
		}
	}
}

// liar is a key whose Cmp is no order.
type liar struct {
	rank int
	tell func(a, b int) int
}

func (l liar) Cmp(m liar) int { return l.tell(l.rank, m.rank) }

// 13.11: each call ends, and none panics; what is put comes out once all the same.
func TestLiars(t *testing.T) {
	n := noise(1311)
	turn := 0
	for name, tell := range map[string]func(a, b int) int{
		"below":    func(a, b int) int { return -1 },
		"above":    func(a, b int) int { return 1 },
		"noise":    func(a, b int) int { return n.below(3) - 1 },
		"round":    func(a, b int) int { return (a-b+300)%3 - 1 },
		"by turns": func(a, b int) int { turn++; return turn%2*2 - 1 },
		"least":    func(a, b int) int { return math.MinInt },
	} {
		t.Run(name, func(t *testing.T) {
			for range 30 {
				lies(t, &n, tell)
			}
		})
	}
}

// lies makes all calls of a queue by a liar's keys.
func lies(t *testing.T, n *noise, tell func(a, b int) int) {
	q := disc.NewKeyed[liar]()
	put, out := 0, 0
	for seq := 1; seq < 150; seq++ {
		h := one(n, []api.Handle{a, b, c})
		q.Join(h, api.Params{}, 0)
		p, k := pk(h, 1, seq, 0), liar{n.below(9), tell}
		q.Spare(p, k, n.below(30))
		if q.Put(p, k) == api.OK {
			put++
		}
		worst, _ := q.Worst(n.below(20))
		if q.Evict(worst) == api.OK {
			out++
		}
		if _, ok := q.Pick(n.below(seq) + 1); ok {
			out++
		}
		if n.below(40) == 0 {
			l, _ := q.Leave(h, 0)
			out += len(l)
		}
		if n.below(2) == 0 {
			if _, ok := q.Next(0); ok {
				out++
			}
		}
		told := 0
		for range q.All() {
			told++
		}
		if q.Len() != put-out || told != q.Len() {
			t.Fatalf("Len %d, All %d, want %d", q.Len(), told, put-out)
		}
	}
	for q.Len() > 0 {
		want, _ := q.Peek(0)
		p, ok := q.Next(0)
		alike(t, "Next behind Peek", p, ok, want, true)
	}
}

// 13.15: whatever ints are given, each call ends.
func TestWhateverIsGiven(t *testing.T) {
	n := noise(1315)
	any := func() api.Packet {
		return api.Packet{Flow: api.Handle{Slot: one(&n, odd), Gen: one(&n, odd)}, ID: one(&n, odd), Size: one(&n, odd), Seq: one(&n, odd), Came: one(&n, odd)}
	}
	for range 40 {
		l := disc.NewLine()
		for range 200 {
			p := any()
			l.Join(p.Flow, api.Params{Weight: p.Seq, Span: p.Came}, one(&n, odd))
			q := any()
			q.Flow = p.Flow
			l.Plan(q, one(&n, odd))
			l.Admit(q)
			l.Put(q, disc.Tick(one(&n, odd)))
			l.Spare(q, disc.Tick(one(&n, odd)), one(&n, odd))
			l.Evict(any())
			l.Pick(one(&n, odd))
			l.Worst(one(&n, odd))
			l.Peek(one(&n, odd))
			l.Weight(one(&n, odd))
			if n.below(4) == 0 {
				l.Next(one(&n, odd))
				l.Leave(q.Flow, one(&n, odd))
			}
			l.Params(q.Flow)
			told := 0
			for range l.All() {
				told++
			}
			if told != l.Len() {
				t.Fatalf("All %d, Len %d", told, l.Len())
			}
		}
	}
}

// scribble writes over a list and the spare room behind it.
func scribble(l []api.Packet) {
	l = l[:cap(l)]
	for i := range l {
		l[i] = pk(b, -7, -7, -7)
	}
}

// 13.15: whoever writes into what was told changes nothing else.
func TestWhatIsToldIsNewMemory(t *testing.T) {
	n := noise(13151)
	for range 60 {
		s, m := filled(t, &n, 30)
		p := pk(a, 1, 31, 0)
		first, e := s.Spare(p, math.MaxInt-1, 1)
		refuses(t, "Spare", first, e, api.ErrRefused)
		key := 0
		if l := m.of(a); len(l) > 0 {
			key = l[len(l)-1].key
		}
		one, e := s.Spare(p, disc.Tick(key), 9)
		want, wantE := m.spare(p, key, 9)
		same(t, "Spare", one, want, e, wantE)
		two, _ := s.Spare(p, disc.Tick(key), 9)
		scribble(one)
		same(t, "Spare behind a scribble", two, want, e, wantE)
		s.looks(t, m)
		left, _ := s.Leave(a, 0)
		wantLeft, _ := m.leave(a)
		other, _ := s.Leave(b, 0)
		wantOther, _ := m.leave(b)
		scribble(left)
		same(t, "Leave behind a scribble", other, wantOther, api.OK, api.OK)
		if len(left) != len(wantLeft) {
			t.Fatalf("Leave: %d, want %d", len(left), len(wantLeft))
		}
		s.looks(t, m)
	}
}

// Two have nothing in common.
func TestTwoApart(t *testing.T) {
	x, y := lineOf(t), disc.NewLine()
	is(t, "Admit", x.Admit(pk(a, 1, 9, 9)), api.OK)
	is(t, "Admit to the other", y.Admit(pk(a, 1, 1, 0)), api.ErrHandle)
	is(t, "Join of the other", y.Join(a, api.Params{}, 0), api.OK)
	is(t, "Admit to the other", y.Admit(pk(a, 1, 1, 0)), api.OK)
	if x.Len() != 1 || y.Len() != 1 || y.Weight(0) != 0 || x.Weight(0) != 5 {
		t.Errorf("Len %d %d, Weight %d %d", x.Len(), y.Len(), x.Weight(0), y.Weight(0))
	}
}

// Long queues of many flows are gone through in time.
func TestManyPackets(t *testing.T) {
	const flows, many = 200, 60000
	q := disc.NewKeyed[disc.Tick]()
	for slot := range flows {
		is(t, "Join", q.Join(api.Handle{Slot: slot}, api.Params{}, 0), api.OK)
	}
	last := make([]int, flows)
	n := noise(60000)
	for seq := 1; seq <= many; seq++ {
		slot := n.below(flows)
		last[slot] += n.below(1000)
		p := pk(api.Handle{Slot: slot}, 1, seq, 0)
		is(t, "Put", q.Put(p, disc.Tick(last[slot])), api.OK)
	}
	for range 200 {
		l, e := q.Spare(pk(api.Handle{Slot: 0}, 1, many+1, 0), disc.Tick(last[0]), 1)
		if e != api.OK && e != api.ErrRefused || e == api.OK && len(l) != 1 {
			t.Fatalf("Spare: %v %d", l, e)
		}
	}
	key := disc.Tick(-1)
	var order []int
	for k, p := range q.All() {
		if k < key {
			t.Fatalf("All: the key %d behind %d", k, key)
		}
		key = k
		order = append(order, p.Seq)
	}
	for i := range order[:many/2] {
		p, ok := q.Next(0)
		tells(t, "Next", p, ok, order[i])
		p, ok = q.Worst(0)
		tells(t, "Worst", p, ok, order[many-1-i])
		if i < many/2-1 {
			is(t, "Evict", q.Evict(p), api.OK)
		}
	}
}
