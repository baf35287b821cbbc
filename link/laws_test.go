package link_test

import (
	"math"
	"math/big"
	"slices"
	"testing"

	"millrace/api"
	"millrace/disc"
	"millrace/fluid"
	"millrace/link"
	"millrace/rat"
)

// odd are ints at ends.
var odd = []int{math.MinInt, math.MinInt + 1, -65536, -2, -1, 0, 1, 2, 3, 7, 20, 30, 65535, 65536, 65537, 1 << 30, 1<<40 + 1, 1<<62 - 1, 1 << 62, 1<<62 + 1, math.MaxInt - 1, math.MaxInt}

// traffic is a link with flows that come and go, and a record of what came and what became of it.
type traffic struct {
	t       *testing.T
	n       *noise
	l       *link.Link
	conf    api.Conf
	flows   []api.Handle // the open ones
	params  map[api.Handle]api.Params
	gen     int
	came    []api.Packet // what was admitted, by numbers
	queued  []api.Packet // by numbers
	lost    map[int]bool // what was evicted, or left with its flow
	began   []api.Packet
	left    []api.Departure
	toldAt  map[int]int // the time of the call that told of a departure
	polls   []int       // their times
	closing bool        // whether flows come and go

	begins  func(p api.Packet)                                 // ahead of each that begins
	offered func(p api.Packet, gone []api.Packet, e api.Errno) // ahead of each that was offered and may have come
}

func trafficOf(t *testing.T, n *noise, c api.Conf, flows int) *traffic {
	t.Helper()
	l, e := link.New(c)
	is(t, "New", e, api.OK)
	x := &traffic{t: t, n: n, l: l, conf: c, params: map[api.Handle]api.Params{}, lost: map[int]bool{}, toldAt: map[int]int{}, closing: true}
	x.begins, x.offered = func(api.Packet) {}, func(api.Packet, []api.Packet, api.Errno) {}
	for range flows {
		x.opens()
	}
	return x
}

// opens lets a flow come whose handle no other ever had.
func (x *traffic) opens() {
	x.t.Helper()
	x.gen++
	h, p := api.Handle{Slot: x.gen, Gen: 1}, anyParams(x.n, x.conf)
	is(x.t, "Join", x.l.Join(h, p), api.OK)
	x.flows, x.params[h] = append(x.flows, h), p
}

// closes lets a flow go.
func (x *traffic) closes() {
	x.t.Helper()
	k := x.n.below(len(x.flows))
	h := x.flows[k]
	x.flows = slices.Delete(x.flows, k, k+1)
	left, e := x.l.Leave(h)
	own := slices.DeleteFunc(slices.Clone(x.queued), func(p api.Packet) bool { return p.Flow != h })
	same(x.t, "Leave", left, own, e, api.OK)
	for _, p := range left {
		x.loses(p)
	}
}

func (x *traffic) loses(p api.Packet) {
	x.t.Helper()
	x.takes(p)
	x.lost[p.Seq] = true
}

// takes takes a packet out of what is queued, of which it must be.
func (x *traffic) takes(p api.Packet) {
	x.t.Helper()
	k := slices.Index(x.queued, p)
	if k < 0 {
		x.t.Fatalf("%v is not queued", p)
	}
	x.queued = slices.Delete(x.queued, k, k+1)
}

// offers offers a packet, which may be refused for want of room alone.
func (x *traffic) offers() {
	x.t.Helper()
	p := pk(one(x.n, x.flows), 1+x.n.below(x.conf.Most), len(x.came)+1, x.l.Time())
	fits := x.l.Bytes()+p.Size <= x.conf.Room
	gone, e := x.l.Offer(p)
	if e != api.OK && (e != api.ErrRefused || fits) {
		x.t.Fatalf("Offer of %v: %d, with %d bytes of %d", p, e, x.l.Bytes(), x.conf.Room)
	}
	x.offered(p, gone, e)
	if e != api.OK {
		return
	}
	if fits && len(gone) > 0 {
		x.t.Fatalf("%v is evicted for %v, for which there is room", gone, p)
	}
	for _, victim := range gone {
		x.loses(victim)
	}
	x.came, x.queued = append(x.came, p), append(x.queued, p)
}

func (x *traffic) replays(t int, poll bool) {
	x.t.Helper()
	began, left := x.l.Replay(t, poll)
	x.left = append(x.left, left...)
	for _, d := range left {
		x.toldAt[d.Seq] = x.l.Time()
	}
	if poll {
		x.polls = append(x.polls, x.l.Time())
	}
	x.began = append(x.began, began...)
	for _, p := range began {
		x.begins(p)
		x.takes(p)
	}
}

// holds looks that the books of the buffer balance.
func (x *traffic) holds() {
	x.t.Helper()
	bytes := sizes(x.queued)
	if now, busy := x.l.Now(); busy {
		bytes += now.Size
	}
	if x.l.Bytes() != bytes || bytes > x.conf.Room || x.l.Len() != len(x.queued) {
		x.t.Fatalf("Bytes %d of %d, Len %d, want %d, %d", x.l.Bytes(), x.conf.Room, x.l.Len(), bytes, len(x.queued))
	}
}

// run lets things happen for so many steps, and then all that is queued be sent.
func (x *traffic) run(steps int) {
	x.t.Helper()
	pace := 1 + x.n.below(2*x.conf.Most)
	for range steps {
		switch call := x.n.below(40); {
		case call == 0 && x.closing:
			x.closes()
			x.opens()
		case call < 20:
			x.offers()
		default:
			x.replays(x.l.Time()+x.n.below(pace), x.n.below(2) == 0)
		}
		x.holds()
	}
	x.replays(x.l.Time()+2*x.conf.Room, true)
	if x.l.Len() > 0 || x.l.Bytes() > 0 {
		x.t.Fatalf("%d packets, %d bytes are left", x.l.Len(), x.l.Bytes())
	}
}

// runs makes links of a kind run, every second one with a room that is never full and flows that stay.
func runs(t *testing.T, seed uint64, kinds []int, steps int, test func(x *traffic, full bool) func()) {
	t.Helper()
	n := noise(seed)
	for _, kind := range kinds {
		for round := range 40 {
			c := anyConf(&n, kind)
			full := round%2 == 0
			if !full {
				c.Room = 1 << 30
			}
			x := trafficOf(t, &n, c, 1+n.below(5))
			x.closing = full
			behind := test(x, full)
			x.run(steps)
			behind()
		}
	}
}

// 17.15: what was offered comes out once. (Whenever something comes out, it is held against what is queued.)
func TestEachComesOutOnce(t *testing.T) {
	lost := 0
	runs(t, 1715, kinds, 300, func(x *traffic, full bool) func() {
		return func() {
			out := map[int]int{}
			for _, d := range x.left {
				if d.Packet != x.came[d.Seq-1] {
					t.Fatalf("%v left, %v came", d, x.came[d.Seq-1])
				}
				out[d.Seq]++
			}
			for seq := range x.lost {
				out[seq]++
				lost++
			}
			for _, p := range x.came {
				if out[p.Seq] != 1 {
					t.Fatalf("%v came out %d times", p, out[p.Seq])
				}
			}
			same(t, "those that began, and those that left", x.began, packets(x.left), api.OK, api.OK)
		}
	})
	if lost < 1000 {
		t.Fatalf("only %d were lost", lost)
	}
}

// packets are those of departures.
func packets(l []api.Departure) []api.Packet {
	var ps []api.Packet
	for _, d := range l {
		ps = append(ps, d.Packet)
	}
	return ps
}

// 17.16, W8: what leaves, and when.
func TestTheLink(t *testing.T) {
	runs(t, 1716, kinds, 300, func(x *traffic, full bool) func() {
		return func() {
			free := 0
			last := map[api.Handle]int{}
			for i, d := range x.left {
				if d.Began < free || d.Began < d.Came || d.Left != d.Began+d.Size {
					t.Fatalf("%v, the link being free from %d on", d, free)
				}
				for _, later := range x.left[i:] {
					if d.Began > free && later.Came < d.Began {
						t.Fatalf("the link waits from %d to %d, and %v was there", free, d.Began, later)
					}
				}
				if d.Seq <= last[d.Flow] || x.lost[d.Seq] {
					t.Fatalf("%v left behind %d, lost: %v", d, last[d.Flow], x.lost[d.Seq])
				}
				last[d.Flow], free = d.Seq, d.Left
			}
		}
	})
}

// 17.14: cutting a replay turns nothing.
func TestCuts(t *testing.T) {
	n := noise(1714)
	for _, kind := range kinds {
		for range 30 {
			c := anyConf(&n, kind)
			whole, _ := link.New(c)
			cut, _ := link.New(c)
			for slot := range 4 {
				p := anyParams(&n, c)
				h := api.Handle{Slot: slot}
				is(t, "Join", cut.Join(h, p), whole.Join(h, p))
			}
			for seq := 1; seq < 400; seq++ {
				if n.below(2) == 0 {
					p := pk(api.Handle{Slot: n.below(4)}, 1+n.below(c.Most), seq, whole.Time())
					got, e := cut.Offer(p)
					want, wantE := whole.Offer(p)
					same(t, "Offer", got, want, e, wantE)
					continue
				}
				end, poll := whole.Time()+n.below(70), n.below(2) == 0
				began, left := whole.Replay(end, poll)
				var first []api.Packet
				var then []api.Departure
				for at := whole.Time() - 70; ; at += n.below(30) {
					at = min(at, end)
					x, y := cut.Replay(at, at == end && poll && n.below(2) == 0)
					first, then = append(first, x...), append(then, y...)
					if at == end {
						break
					}
				}
				x, y := cut.Replay(end, poll)
				same(t, "what began", append(first, x...), began, api.OK, api.OK)
				same(t, "what left", append(then, y...), left, api.OK, api.OK)
				if cut.Time() != whole.Time() || cut.Bytes() != whole.Bytes() {
					t.Fatalf("Time %d, Bytes %d, want %d, %d", cut.Time(), cut.Bytes(), whole.Time(), whole.Bytes())
				}
			}
		}
	}
}

// W15: ahead of what Due tells nothing happens, at it something does.
func TestDueComes(t *testing.T) {
	n := noise(1715)
	for _, kind := range kinds {
		for range 30 {
			x := trafficOf(t, &n, anyConf(&n, kind), 3)
			for range 300 {
				for range n.below(3) {
					x.offers()
				}
				x.replays(x.l.Time(), true)
				at, ok := x.l.Due()
				if ok != (x.l.Bytes() > 0) {
					t.Fatalf("Due: %d %v, with %d bytes", at, ok, x.l.Bytes())
				}
				if !ok {
					x.replays(x.l.Time()+n.below(20), true)
					continue
				}
				began, left := x.l.Replay(at-1, n.below(2) == 0)
				if len(began) > 0 || len(left) > 0 {
					t.Fatalf("%v %v ahead of %d", began, left, at)
				}
				told := len(x.left)
				x.replays(at, true)
				if len(x.left) != told+1 {
					t.Fatalf("nothing at %d", at)
				}
			}
		}
	}
}

// exact is a fraction as the library's.
func exact(r rat.Rat) *big.Rat {
	p, q := r.Parts()
	x, _ := new(big.Rat).SetString(p.Text() + "/" + q.Text())
	return x
}

// history is what a fluid is fed.
func (x *traffic) history(l ...api.Packet) []api.Item {
	var items []api.Item
	for _, p := range append(slices.Clone(x.came), l...) {
		items = append(items, api.Item{Flow: p.Flow.Slot, Weight: x.params[p.Flow].Weight, Size: p.Size, Came: p.Came})
	}
	return items
}

// W2: what is not lost has left, and a Poll has told it, soon behind the fluid; under WF2, if nothing is lost.
func TestNearTheFluid(t *testing.T) {
	held := 0
	runs(t, 1702, []int{api.WFQ, api.WF2}, 250, func(x *traffic, full bool) func() {
		return func() {
			if x.conf.Kind == api.WF2 && len(x.lost) > 0 {
				return
			}
			finish, e := fluid.Finish(x.history())
			is(t, "fluid.Finish", e, api.OK)
			for _, d := range x.left {
				held++
				late := new(big.Rat).Add(exact(finish[d.Seq-1]), big.NewRat(int64(x.conf.Most), 1))
				if big.NewRat(int64(d.Left), 1).Cmp(late) > 0 {
					t.Fatalf("%v left behind %s", d, late)
				}
				for _, poll := range x.polls {
					if big.NewRat(int64(poll), 1).Cmp(late) >= 0 && x.toldAt[d.Seq] > poll {
						t.Fatalf("%v was told at %d, behind the Poll of %d, which was behind %s", d, x.toldAt[d.Seq], poll, late)
					}
				}
			}
		}
	})
	if held < 3000 {
		t.Fatalf("only %d were held", held)
	}
}

// W4: under EDF what can be in time is.
func TestInTime(t *testing.T) {
	held := 0
	runs(t, 1704, []int{api.EDF}, 120, func(x *traffic, full bool) func() {
		for h, p := range x.params {
			x.l.Leave(h)
			p.Span = 1 + p.Span*4
			is(t, "Join", x.l.Join(h, p), api.OK)
			x.params[h] = p
		}
		x.closing = false
		return func() {
			deadline := func(p api.Packet) int { return p.Came + x.params[p.Flow].Span }
			for _, d := range x.left {
				if !x.fits(deadline, d.Packet) {
					continue
				}
				held++
				if d.Left > deadline(d.Packet) {
					t.Fatalf("%v left behind its deadline %d", d, deadline(d.Packet))
				}
			}
		}
	})
	if held < 500 {
		t.Fatalf("only %d could be in time for sure", held)
	}
}

// fits is whether what came leaves so much time that a packet is to be in time, as W4 words it.
func (x *traffic) fits(deadline func(api.Packet) int, p api.Packet) bool {
	d := deadline(p)
	for s := d - 1; s >= 0; s-- {
		bytes := 0
		for _, q := range x.came {
			if q.Came >= s && deadline(q) <= d {
				bytes += q.Size
			}
		}
		if bytes > 0 && bytes+x.conf.Most > d-s {
			return false
		}
	}
	return true
}

// W5: under AGE nothing waits longer than its class and the room let it.
func TestNobodyWaitsLong(t *testing.T) {
	runs(t, 1705, []int{api.AGE}, 400, func(x *traffic, full bool) func() {
		return func() {
			for _, d := range x.left {
				if d.Left > d.Came+x.params[d.Flow].Class*x.conf.Age+x.conf.Room {
					t.Fatalf("%v of the class %d, the room being %d", d, x.params[d.Flow].Class, x.conf.Room)
				}
			}
		}
	})
}

// W11: under WF2, if nothing is evicted, nothing of a flow begins ahead of what the fluid has served of it.
func TestNeverFarAhead(t *testing.T) {
	runs(t, 1711, []int{api.WF2}, 120, func(x *traffic, full bool) func() {
		return func() {
			if len(x.lost) > 0 {
				return
			}
			sent := map[api.Handle]int{}
			for _, d := range x.left {
				served, e := fluid.Served(x.history(), d.Flow.Slot, d.Began)
				is(t, "fluid.Served", e, api.OK)
				if exact(served).Cmp(big.NewRat(int64(sent[d.Flow]), 1)) < 0 {
					t.Fatalf("%v begins, %d bytes of its flow began ahead of it, %s are served", d, sent[d.Flow], exact(served))
				}
				sent[d.Flow] += d.Size
			}
		}
	})
}

// keys are what the packets that were admitted, and perhaps one more, are ordered by ahead of their numbers.
func (x *traffic) keys(l ...api.Packet) []*big.Rat {
	x.t.Helper()
	var keys []*big.Rat
	switch x.conf.Kind {
	case api.WFQ, api.WF2:
		tags, e := fluid.Tags(x.history(l...))
		is(x.t, "fluid.Tags", e, api.OK)
		for _, tag := range tags {
			keys = append(keys, exact(tag))
		}
		return keys
	}
	for _, p := range append(slices.Clone(x.came), l...) {
		behind := x.params[p.Flow].Span
		if x.conf.Kind == api.AGE {
			behind = x.params[p.Flow].Class * x.conf.Age
		}
		keys = append(keys, big.NewRat(int64(p.Came+behind), 1))
	}
	return keys
}

// ordered are packets by their keys and numbers.
func ordered(l []api.Packet, keys []*big.Rat) []api.Packet {
	return slices.SortedFunc(slices.Values(l), func(p, q api.Packet) int {
		if c := keys[p.Seq-1].Cmp(keys[q.Seq-1]); c != 0 {
			return c
		}
		return p.Seq - q.Seq
	})
}

// W13: what begins is the least of all that is queued, by what its discipline goes by.
func TestTheLeastBegins(t *testing.T) {
	runs(t, 1713, []int{api.WFQ, api.EDF, api.AGE}, 120, func(x *traffic, full bool) func() {
		x.begins = func(p api.Packet) {
			if least := ordered(x.queued, x.keys())[0]; p != least {
				t.Fatalf("%v begins, the least is %v", p, least)
			}
		}
		return func() {}
	})
}

// W14: who goes for a packet is the greatest, again and again; what is refused is that itself.
func TestTheGreatestGoes(t *testing.T) {
	refused := 0
	runs(t, 17140, []int{api.WFQ, api.EDF, api.AGE, api.WF2}, 120, func(x *traffic, full bool) func() {
		x.offered = func(p api.Packet, gone []api.Packet, e api.Errno) {
			// What was evicted is off the bytes by now.
			need := x.l.Bytes() + sizes(gone) - x.conf.Room
			if e != api.OK {
				need += p.Size
			}
			var want []api.Packet
			for _, worst := range slices.Backward(ordered(append(slices.Clone(x.queued), p), x.keys(p))) {
				if need < 1 {
					break
				}
				if worst == p {
					refused++
					refuses(t, "Offer of the worst", gone, e, api.ErrRefused)
					return
				}
				want = append(want, worst)
				need -= worst.Size
			}
			same(t, "Offer", gone, want, e, api.OK)
		}
		return func() {}
	})
	if refused < 300 {
		t.Fatalf("only %d were refused", refused)
	}
}

// 17.17: whatever ints are given, each call ends.
func TestWhateverIsGiven(t *testing.T) {
	n := noise(1717)
	any := func() api.Packet {
		return api.Packet{Flow: api.Handle{Slot: one(&n, odd), Gen: one(&n, odd)}, ID: one(&n, odd), Size: one(&n, odd), Seq: one(&n, odd), Came: one(&n, odd)}
	}
	for range 3000 {
		c := api.Conf{Kind: n.below(9) - 1, Room: one(&n, odd), Most: one(&n, odd), Cap: one(&n, odd), Flows: one(&n, odd), Age: one(&n, odd)}
		for range n.below(3) {
			c.Nodes = append(c.Nodes, api.Node{Kind: n.below(8), Parent: one(&n, odd), Quantum: one(&n, odd), Age: one(&n, odd)})
		}
		link.New(c)
		link.Over(c, disc.NewLine())
	}
	for _, kind := range kinds {
		for range 10 {
			c := anyConf(&n, kind)
			c.Most, c.Room = 65536, 1<<18
			l, e := link.New(c)
			is(t, "New", e, api.OK)
			for seq := range 200 {
				p := any()
				l.Join(p.Flow, api.Params{Weight: one(&n, odd), Quantum: one(&n, odd), Class: one(&n, odd), Span: one(&n, odd), Node: n.below(9)})
				q := any()
				q.Flow = p.Flow
				l.Offer(q)
				l.Offer(any())
				l.Offer(pk(p.Flow, one(&n, []int{1, 2, 65536}), seq+1, l.Time()))
				l.Now()
				l.Due()
				l.Weight()
				switch n.below(6) {
				case 0:
					l.Replay(l.Time()+n.below(100000), n.below(2) == 0)
				case 1:
					l.Leave(p.Flow)
				case 2:
					if seq > 150 {
						l.Replay(one(&n, odd), n.below(2) == 0)
					}
				}
				if l.Bytes() < 0 || l.Bytes() > c.Room || l.Len() > l.Bytes() {
					t.Fatalf("Bytes %d, Len %d", l.Bytes(), l.Len())
				}
			}
		}
	}
}

// scribble writes over a list and the spare room behind it.
func scribble[T any](l []T, v T) {
	l = l[:cap(l)]
	for i := range l {
		l[i] = v
	}
}

// 17.17: whoever writes into what was told changes nothing else.
func TestWhatIsToldIsNewMemory(t *testing.T) {
	n := noise(17171)
	bad := pk(b, -7, -7, -7)
	for _, kind := range kinds {
		for range 20 {
			c := anyConf(&n, kind)
			x, _ := link.New(c)
			y, _ := link.New(c)
			for slot := range 3 {
				p := anyParams(&n, c)
				h := api.Handle{Slot: slot}
				is(t, "Join", x.Join(h, p), y.Join(h, p))
			}
			for seq := 1; seq < 200; seq++ {
				h := api.Handle{Slot: n.below(3)}
				switch n.below(20) {
				case 0:
					got, e := x.Leave(h)
					want, wantE := y.Leave(h)
					same(t, "Leave", got, want, e, wantE)
					scribble(got, bad)
					p := anyParams(&n, c)
					is(t, "Join", x.Join(h, p), y.Join(h, p))
				case 1, 2, 3, 4, 5:
					at := x.Time() + n.below(90)
					began, left := x.Replay(at, true)
					wantBegan, wantLeft := y.Replay(at, true)
					same(t, "what began", began, wantBegan, api.OK, api.OK)
					same(t, "what left", left, wantLeft, api.OK, api.OK)
					scribble(began, bad)
					scribble(left, api.Departure{Packet: bad})
				default:
					p := pk(h, 1+n.below(c.Most), seq, x.Time())
					got, e := x.Offer(p)
					want, wantE := y.Offer(p)
					same(t, "Offer", got, want, e, wantE)
					scribble(got, bad)
				}
			}
		}
	}
}

// A long replay tells many packets, in time; of each kind.
func TestManyPackets(t *testing.T) {
	for _, kind := range kinds {
		n := noise(100000)
		c := anyConf(&n, kind)
		c.Most, c.Room = 65536, 1<<30
		l, e := link.New(c)
		is(t, "New", e, api.OK)
		for slot := range 64 {
			is(t, "Join", l.Join(api.Handle{Slot: slot}, anyParams(&n, c)), api.OK)
		}
		bytes := 0
		for seq := 1; seq <= 20000; seq++ {
			p := pk(api.Handle{Slot: n.below(64)}, 1+n.below(2000), seq, 0)
			bytes += p.Size
			got, e := l.Offer(p)
			numbers(t, "Offer", got, e)
		}
		began, left := l.Replay(bytes, false)
		if len(began) != 20000 || len(left) != 20000 || left[19999].Left != bytes || l.Bytes() != 0 {
			t.Fatalf("kind %d: %d began, %d left, %d bytes of %d", kind, len(began), len(left), l.Bytes(), bytes)
		}
	}
}
