package fair_test

import (
	"math/big"
	"slices"
	"testing"

	"millrace/api"
	"millrace/fluid"
)

// W2: what is not evicted has left, and a Poll has told it, soon behind the fluid; and soon behind its coming, if its flow sends no faster than its weight lets it. Under WF2, if nothing is evicted.
func TestNearTheFluid(t *testing.T) {
	held, slow := 0, 0
	watched(t, 1902, []int{api.WFQ, api.WF2}, 40, 250, func(x *watch, round int) func() {
		if round%4 > 1 {
			draw := x.draw
			x.draw = func() api.Params {
				p := draw()
				p.Burst, p.Rate, p.Per = 1+x.n.below(3*x.conf.Most), float64(p.Weight), x.conf.Cap
				return p
			}
		}
		return func() {
			if x.conf.Kind == api.WF2 && len(x.lost) > 0 {
				return
			}
			finish, e := fluid.Finish(x.history())
			is(t, "fluid.Finish", e, api.OK)
			for _, d := range x.left {
				held++
				late := sum(exact(finish[d.Seq-1]), whole(x.conf.Most))
				if whole(d.Left).Cmp(late) > 0 {
					t.Fatalf("%v left behind %s", d, late)
				}
				for _, poll := range x.polls {
					if whole(poll).Cmp(late) >= 0 && x.toldAt[d.Seq] > poll {
						t.Fatalf("%v was told at %d, behind the Poll of %d, which was behind %s", d, x.toldAt[d.Seq], poll, late)
					}
				}
				p := x.params[d.Flow]
				if p.Rate > float64(p.Weight) {
					continue
				}
				slow++
				if late = sum(whole(d.Came+x.conf.Most), big.NewRat(int64(p.Burst*x.conf.Cap), int64(p.Weight))); whole(d.Left).Cmp(late) > 0 {
					t.Fatalf("%v of %+v left behind %s", d, p, late)
				}
			}
		}
	})
	if held < 3000 || slow < 500 {
		t.Fatalf("only %d were held, %d of them slow", held, slow)
	}
}

// member is who takes turns with others: a flow, or a child of a tree's node.
type member struct {
	quantum int
	has     func(p api.Packet) bool
}

// groups are those who take turns with each other, in each place where turns are taken.
func (x *watch) groups() [][]member {
	var flows []member
	for h, p := range x.params {
		flows = append(flows, member{p.Quantum, func(q api.Packet) bool { return q.Flow == h }})
	}
	if x.conf.Kind == api.DRR {
		return [][]member{flows}
	}
	all := make([][]member, len(x.conf.Nodes))
	for i, node := range x.conf.Nodes[1:] {
		child := i + 1
		all[node.Parent] = append(all[node.Parent], member{node.Quantum, func(q api.Packet) bool {
			at := x.params[q.Flow].Node
			for at > child {
				at = x.conf.Nodes[at].Parent
			}
			return at == child
		}})
	}
	return all
}

// apart is how far two got apart: the greatest difference of what they began, each by its quantum (times both quanta, to be whole), in stretches of steps in which both always have something queued.
func (x *watch) apart(a, b member) (most int, ok bool) {
	queuedA, queuedB, gap, least := 0, 0, 0, 0
	within := false
	for _, s := range x.steps {
		before := queuedA > 0 && queuedB > 0
		change := map[int]int{comes: 1, goes: -1, begins: -1}[s.what]
		sent := 0
		if a.has(s.packet) {
			queuedA += change
			sent = s.packet.Size * b.quantum
		}
		if b.has(s.packet) {
			queuedB += change
			sent = -s.packet.Size * a.quantum
		}
		if !before || queuedA == 0 || queuedB == 0 {
			within = false
			continue
		}
		if !within {
			within, gap, least = true, 0, 0
		}
		if s.what == begins {
			gap += sent
		}
		most, ok = max(most, gap-least), true
		least = min(least, gap)
	}
	return most, ok
}

// W3: two that always have something queued are served by their quanta, as far as whole packets let it.
func TestFairTurns(t *testing.T) {
	held, near := 0, 0
	watched(t, 1903, []int{api.DRR, api.TREE}, 60, 300, func(x *watch, round int) func() {
		return func() {
			for _, group := range x.groups() {
				for i, a := range group {
					for j, b := range group {
						if i == j {
							continue
						}
						apart, ok := x.apart(a, b)
						most := a.quantum*b.quantum + x.conf.Most*(a.quantum+b.quantum)
						if apart > most {
							t.Fatalf("%+v: %d apart, of quanta of %d and %d at most %d", x.conf, apart, a.quantum, b.quantum, most)
						}
						if ok {
							held++
						}
						if 2*apart > most {
							near++
						}
					}
				}
			}
		}
	})
	if held < 500 || near < 50 {
		t.Fatalf("only %d pairs were held, %d of them apart", held, near)
	}
}

// W4: under EDF what can be in time is.
func TestInTime(t *testing.T) {
	held := 0
	watched(t, 1904, []int{api.EDF}, 40, 120, func(x *watch, round int) func() {
		draw := x.draw
		x.draw = func() api.Params {
			p := draw()
			p.Span = 1 + 4*p.Span
			return p
		}
		return func() {
			for _, d := range x.left {
				deadline := x.deadline(d.Packet)
				if !x.fits(d.Packet) {
					continue
				}
				held++
				if d.Left > deadline {
					t.Fatalf("%v left behind its deadline %d", d, deadline)
				}
			}
		}
	})
	if held < 300 {
		t.Fatalf("only %d could be in time for sure", held)
	}
}

func (x *watch) deadline(p api.Packet) int { return p.Came + x.params[p.Flow].Span }

// fits is whether what came leaves so much time that a packet is to be in time, as W4 words it.
func (x *watch) fits(p api.Packet) bool {
	d := x.deadline(p)
	for s := d - 1; s >= 0; s-- {
		bytes := 0
		for _, q := range x.came {
			if q.Came >= s && x.deadline(q) <= d {
				bytes += q.Size
			}
		}
		if bytes > 0 && bytes+x.conf.Most > d-s {
			return false
		}
	}
	return true
}

// W5: under AGE nothing waits longer than its class and the room let it.
func TestNobodyWaitsLong(t *testing.T) {
	held := 0
	watched(t, 1905, []int{api.AGE}, 40, 400, func(x *watch, round int) func() {
		return func() {
			for _, d := range x.left {
				most := d.Came + x.params[d.Flow].Class*x.conf.Age + x.conf.Room
				if d.Left > most {
					t.Fatalf("%v left behind %d", d, most)
				}
				if 4*(d.Left-d.Came) > most-d.Came {
					held++
				}
			}
		}
	})
	if held < 300 {
		t.Fatalf("only %d waited long", held)
	}
}

// W6: what is admitted of a flow stays within its bucket.
func TestPolicedFlows(t *testing.T) {
	held := 0
	watched(t, 1906, kinds, 12, 300, func(x *watch, round int) func() {
		x.draw = func() api.Params {
			p := anyParams(x.n, x.conf)
			p.Rate, p.Per = one(x.n, []float64{0.1, 1, 1.5, 7}), 1+x.n.below(6)
			return p
		}
		return func() {
			for i, first := range x.came {
				bytes, p := 0, x.params[first.Flow]
				rate := part(new(big.Rat).SetFloat64(p.Rate), whole(p.Per))
				for _, last := range x.came[i:] {
					if last.Flow != first.Flow {
						continue
					}
					bytes += last.Size
					held++
					most := sum(whole(p.Burst), prod(rate, whole(last.Came-first.Came)))
					if whole(bytes).Cmp(most) > 0 {
						t.Fatalf("%d bytes from %v to %v, at most %s", bytes, first, last, most)
					}
				}
			}
		}
	})
	if held < 20_000 {
		t.Fatalf("only %d spans were held", held)
	}
}

// W6: nothing is evicted, but by Close, and nothing refused for want of room, if the flows ask for no more than there is.
func TestNobodyLacksRoom(t *testing.T) {
	n, sent := noise(19061), 0
	for _, kind := range kinds {
		for range 16 {
			c := anyConf(&n, kind)
			each := 1 + n.below(2*c.Most)
			c.Room = c.Most + each*c.Flows
			x := watchOf(t, &n, c)
			x.draw = func() api.Params {
				p := anyParams(&n, c)
				p.Burst, p.Rate, p.Per = each, 1, c.Flows
				return p
			}
			x.run(400)
			sent += len(x.left)
			if x.pushed > 0 || x.full > 0 {
				t.Fatalf("%+v: %d were evicted, %d refused", c, x.pushed, x.full)
			}
		}
	}
	if sent < 3000 {
		t.Fatalf("only %d were sent", sent)
	}
}

// balances is whether books do.
func balances(c api.Counters) bool {
	var n api.Count
	for _, x := range []api.Count{c.Refused, c.Evicted, c.Departed, c.Queued, c.Sending} {
		n.Packets, n.Bytes = n.Packets+x.Packets, n.Bytes+x.Bytes
	}
	return c.Offered == n
}

// W7: the books balance behind each call, of each flow and of all, and tell what is queued and on the link.
func TestBooksBalance(t *testing.T) {
	n := noise(1907)
	for _, kind := range kinds {
		for round := range 16 {
			x := pairOf(t, &n, anyConf(&n, kind))
			params := func() api.Params {
				if round%2 == 0 {
					return rich(anyParams(&n, x.m.conf))
				}
				return anyParams(&n, x.m.conf)
			}
			for range 200 {
				x.goesOn(20)
				x.step(params())
				s := looks(t, x.f)
				queued, sending := queues(s), api.Count{}
				if s.Busy {
					sending = count(1, s.Now.Size)
				}
				if !balances(s.Total) || s.Total.Queued != count(len(queued), sizes(queued)) || s.Total.Sending != sending {
					t.Fatalf("all: %+v", s)
				}
				if s.Total.Queued.Bytes+s.Total.Sending.Bytes > x.m.conf.Room {
					t.Fatalf("beyond the room of %d: %+v", x.m.conf.Room, s.Total)
				}
				for _, f := range s.Flows {
					c, e := x.f.Stats(f.Handle)
					if !balances(c) || c != f.Counters || c.Queued != count(len(f.Queue), sizes(f.Queue)) || e != api.OK {
						t.Fatalf("a flow: %+v, its books %+v %v", f, c, e)
					}
				}
			}
		}
	}
}

// W8: what leaves, and when.
func TestTheLink(t *testing.T) {
	watched(t, 1908, kinds, 24, 300, func(x *watch, round int) func() {
		return func() {
			free := 0
			last := map[api.Handle]int{}
			for i, d := range x.left {
				if d.Packet != x.came[d.Seq-1] {
					t.Fatalf("%v left, %v came", d, x.came[d.Seq-1])
				}
				if d.Began < free || d.Began < d.Came || d.Left != d.Began+d.Size {
					t.Fatalf("%v, the link being free from %d on", d, free)
				}
				for _, later := range x.left[i:] {
					if d.Began > free && later.Came < d.Began {
						t.Fatalf("the link waits from %d to %d, and %v was there", free, d.Began, later)
					}
				}
				if d.Seq <= last[d.Flow] || x.lost[d.Seq] {
					t.Fatalf("%v left behind %d, lost: %v", d, last[d.Flow], x.lost[d.Seq])
				}
				last[d.Flow], free = d.Seq, d.Left
			}
		}
	})
}

// W11: under WF2, if nothing is evicted, nothing of a flow begins ahead of what the fluid has served of it.
func TestNeverFarAhead(t *testing.T) {
	held := 0
	watched(t, 1911, []int{api.WF2}, 40, 120, func(x *watch, round int) func() {
		return func() {
			if len(x.lost) > 0 {
				return
			}
			sent := map[api.Handle]int{}
			for _, d := range x.left {
				served, e := fluid.Served(x.history(), x.order[d.Flow], d.Began)
				is(t, "fluid.Served", e, api.OK)
				if exact(served).Cmp(whole(sent[d.Flow])) < 0 {
					t.Fatalf("%v begins, %d bytes of its flow began ahead of it, %s are served", d, sent[d.Flow], exact(served))
				}
				sent[d.Flow] += d.Size
				held++
			}
		}
	})
	if held < 500 {
		t.Fatalf("only %d were held", held)
	}
}

// W12: what has its tokens, a short tag and a place is taken, and nobody goes for it.
func TestTaken(t *testing.T) {
	fit := 0
	watched(t, 1912, kinds, 24, 300, func(x *watch, round int) func() {
		x.offered = func(before api.Snapshot, p api.Packet, gone []api.Packet, e api.Errno) {
			if before.Total.Queued.Bytes+before.Total.Sending.Bytes+p.Size > x.conf.Room {
				return
			}
			fit++
			if e != api.OK || len(gone) > 0 {
				t.Fatalf("%v: %v, %v are evicted, with %+v of %d", p, e, gone, before.Total, x.conf.Room)
			}
		}
		return func() {}
	})
	if fit < 5000 {
		t.Fatalf("only %d had a place", fit)
	}
}

// W12: tokens are there just when Wait says so.
func TestTakenByItsTokens(t *testing.T) {
	n, got := noise(19121), map[bool]int{}
	for _, kind := range kinds {
		for range 12 {
			c := anyConf(&n, kind)
			x := watchOf(t, &n, c)
			x.draw = func() api.Params { return anyParams(&n, c) }
			for range 4 {
				x.opens()
			}
			for range 150 {
				x.ticks(n.below(2 * c.Most))
				h, size := one(&n, x.open), 1+n.below(c.Most)
				at, e := x.f.Wait(h, size)
				_, _, is := x.f.Enqueue(h, 0, size)
				has := e == api.OK && at == x.now
				if has != (is != api.ErrPoliced) {
					t.Fatalf("Wait at %d: %d %v; Enqueue: %v", x.now, at, e, is)
				}
				got[has]++
			}
		}
	}
	if got[true] < 1000 || got[false] < 1000 {
		t.Fatalf("only %v", got)
	}
}

// keys are what the packets that were admitted, and perhaps one more, are ordered by ahead of their numbers.
func (x *watch) keys(l ...api.Packet) []*big.Rat {
	x.t.Helper()
	var keys []*big.Rat
	switch x.conf.Kind {
	case api.WFQ, api.WF2:
		tags, e := fluid.Tags(x.history(l...))
		is(x.t, "fluid.Tags", e, api.OK)
		for _, tag := range tags {
			keys = append(keys, exact(tag))
		}
		return keys
	}
	for _, p := range append(slices.Clone(x.came), l...) {
		keys = append(keys, whole(x.deadline(p)+x.params[p.Flow].Class*x.conf.Age))
	}
	return keys
}

// ordered are packets by their keys and numbers.
func ordered(l []api.Packet, keys []*big.Rat) []api.Packet {
	return slices.SortedFunc(slices.Values(l), func(p, q api.Packet) int {
		if c := keys[p.Seq-1].Cmp(keys[q.Seq-1]); c != 0 {
			return c
		}
		return p.Seq - q.Seq
	})
}

// W13: what begins is the least of all that is queued then, by what its discipline goes by.
func TestTheLeastBegins(t *testing.T) {
	chosen := 0
	watched(t, 1913, []int{api.WFQ, api.EDF, api.AGE}, 40, 200, func(x *watch, round int) func() {
		return func() {
			keys := x.keys()
			var queued []api.Packet
			for _, s := range x.steps {
				if s.what == begins {
					if least := ordered(queued, keys)[0]; s.packet != least {
						t.Fatalf("%v begins, the least is %v", s.packet, least)
					}
					if len(queued) > 1 {
						chosen++
					}
				}
				switch s.what {
				case comes:
					queued = append(queued, s.packet)
				case begins, goes:
					queued = slices.DeleteFunc(queued, func(p api.Packet) bool { return p.Seq == s.packet.Seq })
				}
			}
		}
	})
	if chosen < 3000 {
		t.Fatalf("only %d were chosen among several", chosen)
	}
}

// W14: who goes for a packet is the greatest, again and again; what is refused is that itself.
func TestTheGreatestGoes(t *testing.T) {
	refused, gone := 0, 0
	watched(t, 1914, []int{api.WFQ, api.EDF, api.AGE, api.WF2}, 30, 120, func(x *watch, round int) func() {
		x.offered = func(before api.Snapshot, p api.Packet, got []api.Packet, e api.Errno) {
			lack := before.Total.Queued.Bytes + before.Total.Sending.Bytes + p.Size - x.conf.Room
			if lack <= 0 {
				return
			}
			for i := range got {
				got[i].ID = 0
			}
			var want []api.Packet
			for _, worst := range slices.Backward(ordered(append(queues(before), p), x.keys(p))) {
				if lack <= 0 {
					break
				}
				if worst == p {
					refused++
					same(t, "Enqueue of the worst", all(got, e), all([]api.Packet{}, api.ErrRefused))
					return
				}
				want = append(want, worst)
				lack -= worst.Size
			}
			gone += len(want)
			same(t, "Enqueue", all(got, e), all(want, api.OK))
		}
		return func() {}
	})
	if refused < 500 || gone < 300 {
		t.Fatalf("only %d were refused, %d evicted", refused, gone)
	}
}

// W15: behind a Poll Due tells when the next departure is: no Poll ahead of it tells one.
func TestDueComes(t *testing.T) {
	n := noise(1915)
	for _, kind := range kinds {
		for range 20 {
			x := watchOf(t, &n, anyConf(&n, kind))
			for range 3 {
				x.opens()
			}
			x.ticks(1)
			told := 0
			for range 150 {
				for range n.below(3) {
					x.sends()
				}
				x.asks()
				total, _ := x.f.Total()
				at, ok, e := x.f.Due()
				if ok != (total.Queued.Packets+total.Sending.Packets > 0) || e != api.OK || !ok && at != 0 || ok && at <= x.now {
					t.Fatalf("Due at %d: %d %v %v, with %+v", x.now, at, ok, e, total)
				}
				if !ok {
					x.ticks(n.below(20))
					continue
				}
				for x.now < at {
					polls(t, x.f)
					x.ticks(max(1, n.below(at-x.now+1)))
				}
				// What is told at it left at it.
				before := len(x.left)
				x.asks()
				if len(x.left) != before+1 || x.left[before].Left != at {
					t.Fatalf("at %d: %v", at, x.left[before:])
				}
				told++
			}
			if told < 20 {
				t.Fatalf("only %d were told", told)
			}
		}
	}
}
