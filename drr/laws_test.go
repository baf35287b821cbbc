package drr_test

import (
	"maps"
	"slices"
	"testing"

	"millrace/api"
	"millrace/drr"
)

// watch is a discipline with some flows that come and go, whose steps are looked at.
type watch struct {
	t       *testing.T
	n       *noise
	d       *drr.DRR
	longest int
	quanta  map[api.Handle]int
	queued  map[api.Handle][]api.Packet // by numbers
	told    map[api.Handle]int          // bytes, of the open flows
	gen     int
	seq     int
}

func watchOf(t *testing.T, n *noise, longest int, quanta []int) *watch {
	t.Helper()
	w := &watch{t: t, n: n, d: drr.New(), longest: longest, quanta: map[api.Handle]int{}, queued: map[api.Handle][]api.Packet{}, told: map[api.Handle]int{}}
	for slot, quantum := range quanta {
		w.join(slot, quantum)
	}
	return w
}

// open is the open flows, in an order that is the same in every run.
func (w *watch) open() []api.Handle {
	return slices.SortedFunc(maps.Keys(w.quanta), func(a, b api.Handle) int { return a.Slot - b.Slot })
}

// join opens a flow whose handle no other ever had.
func (w *watch) join(slot, quantum int) {
	w.t.Helper()
	w.gen++
	h := api.Handle{Slot: slot, Gen: w.gen}
	is(w.t, "Join", w.d.Join(h, api.Params{Quantum: quantum}, 0), api.OK)
	w.quanta[h] = quantum
}

// rejoins lets a flow leave, and another one come in its slot.
func (w *watch) rejoins(h api.Handle) {
	w.t.Helper()
	l, e := w.d.Leave(h, 0)
	same(w.t, "Leave", l, w.queued[h], e, api.OK)
	w.join(h.Slot, w.quanta[h])
	delete(w.quanta, h)
	delete(w.queued, h)
	delete(w.told, h)
}

func (w *watch) admit(h api.Handle) {
	w.t.Helper()
	w.seq++
	size := 1 + w.n.below(w.longest)
	if w.n.below(3) == 0 {
		size = w.longest - w.n.below(1+w.longest/20)
	}
	p := pk(h, size, w.seq, 0)
	is(w.t, "Admit", w.d.Admit(p), api.OK)
	w.queued[h] = append(w.queued[h], p)
}

// evict takes a flow's last packet out, if it has one.
func (w *watch) evict(h api.Handle) {
	w.t.Helper()
	l := w.queued[h]
	if len(l) > 0 {
		is(w.t, "Evict", w.d.Evict(l[len(l)-1]), api.OK)
		w.queued[h] = l[:len(l)-1]
	}
}

func (w *watch) next() api.Packet {
	w.t.Helper()
	p, ok := w.d.Next(0)
	if !ok {
		if w.d.Len() > 0 {
			w.t.Fatalf("Next tells nothing of %d", w.d.Len())
		}
		return p
	}
	if l := w.queued[p.Flow]; len(l) == 0 || l[0] != p {
		w.t.Fatalf("Next: %v, the flow has %v", p, l)
	}
	w.queued[p.Flow] = w.queued[p.Flow][1:]
	w.told[p.Flow] += p.Size
	return p
}

// step is a random one; it tells what was evicted, left or told.
func (w *watch) step(comes int) {
	w.t.Helper()
	h := one(w.n, w.open())
	switch call := w.n.below(20); {
	case call < comes:
		w.admit(h)
	case call == 18:
		w.evict(h)
	case call == 19 && w.n.below(8) == 0:
		w.rejoins(h)
	default:
		w.next()
	}
}

// watches runs random uses of several lengths of packets and sizes of quanta, which fill and empty by turns, and looks behind each step.
func watches(t *testing.T, seed int, look func(w *watch) func()) {
	t.Helper()
	n := noise(seed)
	for _, longest := range []int{1, 12, 1500, 65536} {
		for range 12 {
			var quanta []int
			for range 2 + n.below(5) {
				quanta = append(quanta, 1+n.below(one(&n, []int{2, longest, 4 * longest})))
			}
			w := watchOf(t, &n, longest, quanta)
			behind := look(w)
			for i := range 1200 {
				w.step(7 + i/100%2*4)
				behind()
			}
		}
	}
}

// 15.7: how great a deficit may be, and that of one who has not the turn.
func TestDeficitsAreBounded(t *testing.T) {
	watches(t, 157, func(w *watch) func() {
		return func() {
			holder, has := w.d.Turn()
			for h, quantum := range w.quanta {
				deficit, e := w.d.Deficit(h)
				is(t, "Deficit", e, api.OK)
				if deficit < 0 || deficit >= quantum+api.MaxSize {
					t.Fatalf("the deficit %d of the quantum %d", deficit, quantum)
				}
				l := w.queued[h]
				if has && holder == h {
					continue
				}
				if deficit > 0 && (len(l) == 0 || deficit >= l[0].Size) {
					t.Fatalf("the deficit %d of one who has not the turn, with %v queued", deficit, l)
				}
			}
		}
	})
}

// rivals are two flows that both have something queued.
type rivals struct{ i, j api.Handle }

// 15.8: from one moment to another, two that always have something queued get bytes by their quanta, nearly.
func TestFairTurns(t *testing.T) {
	watches(t, 158, func(w *watch) func() {
		// What the one got more than the other, when that was least since both had something, by both quanta.
		least := map[rivals]int{}
		return func() {
			for i, qi := range w.quanta {
				for j, qj := range w.quanta {
					if len(w.queued[i]) == 0 || len(w.queued[j]) == 0 {
						delete(least, rivals{i, j})
						continue
					}
					more := w.told[i]*qj - w.told[j]*qi
					low, ok := least[rivals{i, j}]
					if !ok || more < low {
						low = more
					}
					least[rivals{i, j}] = low
					if more-low > qi*qj+w.longest*qj+w.longest*qi {
						t.Fatalf("of the quanta %d and %d, with packets of %d bytes, the one got %d more", qi, qj, w.longest, more-low)
					}
				}
			}
		}
	})
}

// 15.9: till a flow's first packet is told, no other flow gets much.
func TestNobodyIsLeftBehind(t *testing.T) {
	watches(t, 159, func(w *watch) func() {
		first := map[api.Handle]int{}                // the number of the packet that is first
		since := map[api.Handle]map[api.Handle]int{} // what was told of each when it became that
		return func() {
			for h, quantum := range w.quanta {
				l := w.queued[h]
				if len(l) == 0 || first[h] != l[0].Seq {
					first[h], since[h] = 0, maps.Clone(w.told)
				}
				if len(l) == 0 {
					continue
				}
				first[h] = l[0].Seq
				turns := (l[0].Size + quantum - 1) / quantum
				for other, its := range w.quanta {
					if got := w.told[other] - since[h][other]; other != h && got >= turns*its+api.MaxSize {
						t.Fatalf("%v waits for %d turns of %d bytes, and one of the quantum %d got %d", l[0], turns, quantum, its, got)
					}
				}
			}
		}
	})
}

// 15.6, 13.13: each comes out once, by whatever call, and of a flow the numbers that Next tells rise. (A watch holds each call's packets against what its flow has queued.)
func TestEachComesOutOnce(t *testing.T) {
	watches(t, 1313, func(w *watch) func() {
		return func() {
			left := 0
			for _, l := range w.queued {
				left += len(l)
			}
			if w.d.Len() != left {
				t.Fatalf("Len %d, want %d", w.d.Len(), left)
			}
		}
	})
}

// filled is one in which so many packets of the flows A, B and C lie, some having been sent.
func filled(t *testing.T, n *noise, many int) (*drr.DRR, int) {
	t.Helper()
	d := opened(t, 1+n.below(20), 1+n.below(20), 1+n.below(20))
	for seq := 1; seq <= many; seq++ {
		fed(t, d, pk(one(n, []api.Handle{a, b, c}), 1+n.below(9), seq, 0))
		if n.below(4) == 0 {
			d.Next(0)
		}
	}
	return d, many + 1
}

// 15.6, 13.14: what is told can be evicted in its order, is enough, and would not be without its last one; for more it goes on.
func TestPlansGoOn(t *testing.T) {
	n := noise(1314)
	for range 300 {
		d, seq := filled(t, &n, n.below(30))
		p := pk(one(&n, []api.Handle{a, b, c}), 1+n.below(9), seq, 0)
		var last []api.Packet
		need := 1
		for ; ; need++ {
			l, e := d.Plan(p, need)
			if e == api.ErrRefused {
				break
			}
			is(t, "Plan", e, api.OK)
			if len(l) < len(last) || !slices.Equal(l[:len(last)], last) {
				t.Fatalf("Plan for %d: %v behind %v", need, l, last)
			}
			if sum := sizes(l); sum < need || sum-l[len(l)-1].Size >= need {
				t.Fatalf("Plan for %d: %v", need, l)
			}
			last = l
		}
		if sizes(last) != need-1 {
			t.Fatalf("refused for %d, with %v found", need, last)
		}
		for _, victim := range last {
			is(t, "Evict of what was told", d.Evict(victim), api.OK)
		}
		l, e := d.Plan(p, 1)
		refuses(t, "Plan behind all that was told", l, e, api.ErrRefused)
	}
}

func sizes(l []api.Packet) int {
	sum := 0
	for _, p := range l {
		sum += p.Size
	}
	return sum
}

// 15.6, 13.14: the worst ones are all that is queued, each once, of each flow by falling numbers; evicted in that order they are gone.
func TestTheWorstAreAll(t *testing.T) {
	n := noise(13141)
	for range 60 {
		d, _ := filled(t, &n, n.below(40))
		var all []api.Packet
		last := map[api.Handle]int{}
		for k := range d.Len() {
			p, ok := d.Worst(k)
			if before := last[p.Flow]; !ok || before != 0 && p.Seq >= before {
				t.Fatalf("Worst(%d): %v %v behind the number %d", k, p, ok, before)
			}
			last[p.Flow] = p.Seq
			all = append(all, p)
		}
		for _, p := range all {
			worst, ok := d.Worst(0)
			alike(t, "Worst(0)", worst, ok, p, true)
			is(t, "Evict", d.Evict(p), api.OK)
		}
		if d.Len() != 0 {
			t.Fatalf("%d are left", d.Len())
		}
	}
}

// 15.6, 13.1: turns go by no tick.
func TestTicksChangeNothing(t *testing.T) {
	n := noise(131)
	x, y := exampleOf(t), exampleOf(t)
	for seq := 5; seq < 400; seq++ {
		h, tick := one(&n, []api.Handle{a, b, c}), one(&n, odd)
		switch n.below(8) {
		case 0:
			is(t, "Join", x.Join(h, api.Params{Quantum: 7}, tick), y.Join(h, api.Params{Quantum: 7}, 0))
		case 1:
			l, e := x.Leave(h, tick)
			want, wantE := y.Leave(h, 0)
			same(t, "Leave", l, want, e, wantE)
		case 2, 3:
			p, ok := x.Peek(tick)
			want, wantOk := y.Peek(0)
			alike(t, "Peek", p, ok, want, wantOk)
			p, ok = x.Next(tick)
			alike(t, "Next behind Peek", p, ok, want, wantOk)
			y.Next(0)
		default:
			p := pk(h, 1+n.below(20), seq, 0)
			is(t, "Admit", x.Admit(p), y.Admit(p))
		}
		if x.Weight(tick) != y.Weight(0) || x.Len() != y.Len() {
			t.Fatalf("Weight %d, Len %d, want %d, %d", x.Weight(tick), x.Len(), y.Weight(0), y.Len())
		}
		rings(t, x, y.Ring()...)
	}
}

// 15.10: whatever ints are given, each call ends.
func TestWhateverIsGiven(t *testing.T) {
	n := noise(1510)
	any := func() api.Packet {
		return api.Packet{Flow: api.Handle{Slot: one(&n, odd), Gen: one(&n, odd)}, ID: one(&n, odd), Size: one(&n, odd), Seq: one(&n, odd), Came: one(&n, odd)}
	}
	for range 40 {
		d := drr.New()
		for seq := range 300 {
			p := any()
			d.Join(p.Flow, api.Params{Weight: p.Seq, Quantum: one(&n, odd), Span: p.Came}, one(&n, odd))
			q := any()
			q.Flow = p.Flow
			d.Plan(q, one(&n, odd))
			d.Admit(q)
			good := pk(p.Flow, one(&n, []int{1, 2, 65536}), seq+1, 0)
			d.Plan(good, one(&n, odd))
			d.Admit(good)
			d.Evict(any())
			d.Evict(good)
			d.Admit(good)
			worst, _ := d.Worst(one(&n, odd))
			d.Evict(worst)
			d.Peek(one(&n, odd))
			d.Weight(one(&n, odd))
			d.Deficit(any().Flow)
			d.Turn()
			if n.below(4) == 0 {
				d.Next(one(&n, odd))
				d.Leave(q.Flow, one(&n, odd))
			}
			if len(d.Ring()) > d.Len() {
				t.Fatalf("Ring %v, Len %d", d.Ring(), d.Len())
			}
		}
	}
}

// scribble writes over a list and the spare room behind it.
func scribble[T any](l []T, v T) {
	l = l[:cap(l)]
	for i := range l {
		l[i] = v
	}
}

// 15.10: whoever writes into what was told changes nothing else.
func TestWhatIsToldIsNewMemory(t *testing.T) {
	n := noise(15101)
	for range 60 {
		d, seq := filled(t, &n, 30)
		p := pk(c, 1, seq, 0)
		ring := slices.Clone(d.Ring())
		scribble(d.Ring(), api.Handle{Slot: -7})
		rings(t, d, ring...)
		one, e := d.Plan(p, 3)
		two, _ := d.Plan(p, 3)
		want := slices.Clone(one)
		scribble(one, pk(b, -7, -7, -7))
		same(t, "Plan told ahead of a scribble", two, want, e, e)
		two, _ = d.Plan(p, 3)
		same(t, "Plan behind a scribble", two, want, e, e)
		left, _ := d.Leave(a, 0)
		is(t, "Join", d.Join(a, api.Params{Quantum: 1}, 0), api.OK)
		fed(t, d, pk(a, 1, seq, 0))
		other, _ := d.Leave(b, 0)
		wantOther := slices.Clone(other)
		scribble(left, pk(b, -7, -7, -7))
		same(t, "Leave behind a scribble", other, wantOther, api.OK, api.OK)
		own, e := d.Leave(a, 0)
		numbers(t, "Leave of what came behind", own, e, seq)
	}
}

// Long queues of many flows are gone through in time, and all that is told is by turns.
func TestManyPackets(t *testing.T) {
	const flows, many = 256, 100000
	var quanta []int
	n := noise(100000)
	for range flows {
		quanta = append(quanta, 1+n.below(9))
	}
	d := opened(t, quanta...)
	for seq := 1; seq <= many; seq++ {
		fed(t, d, pk(api.Handle{Slot: n.below(flows), Gen: 1}, 1+n.below(2000), seq, 0))
	}
	for need := 1; need < 1<<17; need *= 2 {
		l, e := d.Plan(pk(api.Handle{Slot: 0, Gen: 1}, 1, many+1, 0), need)
		if e == api.OK && sizes(l) < need || e != api.OK && e != api.ErrRefused {
			t.Fatalf("Plan for %d: %v %d", need, l, e)
		}
	}
	p, ok := d.Worst(many - 1)
	if !ok || p.Flow.Slot < 0 {
		t.Fatalf("Worst: %v %v", p, ok)
	}
	last := make([]int, flows)
	for d.Len() > 0 {
		p, ok := d.Next(0)
		if !ok || p.Seq <= last[p.Flow.Slot] {
			t.Fatalf("Next: %v %v", p, ok)
		}
		last[p.Flow.Slot] = p.Seq
		if worst, ok := d.Worst(0); ok && d.Len()%2 == 0 {
			is(t, "Evict", d.Evict(worst), api.OK)
		}
	}
}
