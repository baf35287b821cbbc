package wfq_test

import (
	"math"
	"math/big"
	"slices"
	"testing"

	"millrace/api"
	"millrace/bucket"
	"millrace/fluid"
	"millrace/rat"
)

// most is the longest packet that comes to the links below.
const most = 12

// exact is a fraction as the library's.
func exact(t *testing.T, r rat.Rat) *big.Rat {
	t.Helper()
	x, ok := new(big.Rat).SetString(text(r))
	if !ok {
		t.Fatalf("%s is no fraction", text(r))
	}
	return x
}

// link sends what a discipline tells, a byte a tick, and writes down what came and what began.
type link struct {
	t       *testing.T
	n       *noise
	d       queue
	now     int
	free    int                // when what is on the link has been sent
	flows   map[api.Handle]int // the open ones, as the history numbers them
	weights []int              // of all flows, as they are numbered
	seq     int
	history []api.Item  // what was admitted, by numbers
	starts  []*big.Rat  // of these
	tags    []*big.Rat  // of these
	began   map[int]int // when, by number
	queued  int         // bytes
	lost    bool        // whether something was evicted, or left queued
}

func linkOf(t *testing.T, n *noise, d queue) *link {
	return &link{t: t, n: n, d: d, flows: map[api.Handle]int{}, began: map[int]int{}}
}

func (l *link) open(h api.Handle, weight int) {
	l.t.Helper()
	is(l.t, "Join", l.d.Join(h, api.Params{Weight: weight}, l.now), api.OK)
	l.flows[h] = len(l.weights)
	l.weights = append(l.weights, weight)
}

func (l *link) close(h api.Handle) {
	l.t.Helper()
	left, e := l.d.Leave(h, l.now)
	is(l.t, "Leave", e, api.OK)
	delete(l.flows, h)
	for _, p := range left {
		l.queued -= p.Size
		l.lost = true
	}
}

// handsIn admits a packet at the tick that it is.
func (l *link) handsIn(h api.Handle, size int) {
	l.t.Helper()
	p := pk(h, size, l.seq+1, l.now)
	start, tag, e := l.d.Tags(p)
	is(l.t, "Tags", e, api.OK)
	is(l.t, "Admit", l.d.Admit(p), api.OK)
	l.seq++
	l.queued += size
	flow := l.flows[h]
	l.history = append(l.history, api.Item{Flow: flow, Weight: l.weights[flow], Size: size, Came: l.now})
	l.starts, l.tags = append(l.starts, exact(l.t, start)), append(l.tags, exact(l.t, tag))
}

// evicts takes the worst one out, or the last one of any flow.
func (l *link) evicts() {
	l.t.Helper()
	k := 0
	if l.n.below(2) == 0 {
		k = l.n.below(l.d.Len() + 1)
	}
	p, _ := l.d.Worst(k)
	if l.d.Evict(p) == api.OK {
		l.queued -= p.Size
		l.lost = true
	}
}

// sends lets the next packet begin, if the link is free.
func (l *link) sends() {
	l.t.Helper()
	if l.free > l.now {
		return
	}
	p, ok := l.d.Next(l.now)
	if ok != (l.queued > 0) {
		l.t.Fatalf("Next: %v %v, with %d bytes queued", p, ok, l.queued)
	}
	if !ok {
		return
	}
	l.began[p.Seq] = l.now
	l.free = l.now + p.Size
	l.queued -= p.Size
}

// busy is whether the link or the fluid has something left.
func (l *link) busy() bool { return l.queued > 0 || l.free > l.now }

// run lets flows come and go, hand in, and be sent, till all is; each is called ahead of and behind each packet that may begin.
func (l *link) run(ticks int, evict bool, each func()) {
	l.t.Helper()
	pace := 1 + l.n.below(4)
	for slot := range 2 + l.n.below(4) {
		l.open(api.Handle{Slot: slot, Gen: 1}, 1+l.n.below(9))
	}
	for ; l.now < ticks || l.busy(); l.now++ {
		for l.now < ticks && l.n.below(most*pace) < 6 {
			l.handsIn(api.Handle{Slot: l.n.below(len(l.flows)), Gen: 1}, 1+l.n.below(most))
		}
		if evict && l.n.below(9) == 0 {
			l.evicts()
		}
		if evict && l.n.below(40) == 0 {
			h := api.Handle{Slot: l.n.below(len(l.flows)), Gen: 1}
			l.close(h)
			l.open(h, 1+l.n.below(9))
		}
		each()
		l.sends()
		each()
	}
}

// links runs links over both disciplines, with and without something evicted.
func links(t *testing.T, seed uint64, test func(l *link, begun, evict bool)) {
	t.Helper()
	n := noise(seed)
	for _, k := range kinds {
		t.Run(k.name, func(t *testing.T) {
			for round := range 60 {
				test(linkOf(t, &n, k.make()), k.begun, round%2 == 0)
			}
		})
	}
}

// 14.8: starts and tags rise, a start is that of V or the tag ahead, and the tags are those of chapter 12.
func TestStartsAndTagsRise(t *testing.T) {
	links(t, 148, func(l *link, begun, evict bool) {
		virtual := map[int]*big.Rat{}
		l.run(150, evict, func() { virtual[l.now] = exact(l.t, l.d.Virtual(l.now)) })
		idle, _ := fluid.Idle(l.history)
		want, e := fluid.Tags(l.history)
		is(l.t, "fluid.Tags", e, api.OK)
		ends := func(i int) int { // how many times the fluid was empty since, up to the tick at which a packet came
			return len(slices.DeleteFunc(slices.Clone(idle), func(r rat.Rat) bool { return exact(l.t, r).Cmp(count(l.history[i].Came)) > 0 }))
		}
		last := map[int]int{}
		for i, x := range l.history {
			equal(l.t, "the tag", want[i], l.tags[i])
			if l.starts[i].Cmp(virtual[x.Came]) < 0 {
				l.t.Fatalf("the start %s is below V, %s", l.starts[i], virtual[x.Came])
			}
			ahead, ok := last[x.Flow]
			ok = ok && ends(ahead) == ends(i)
			if l.starts[i].Cmp(virtual[x.Came]) != 0 && (!ok || l.starts[i].Cmp(l.tags[ahead]) != 0) {
				l.t.Fatalf("the start %s is neither V nor the tag ahead", l.starts[i])
			}
			if ok && (l.starts[i].Cmp(l.starts[ahead]) <= 0 || l.tags[i].Cmp(l.tags[ahead]) <= 0) {
				l.t.Fatalf("of the flow %d %s, %s behind %s, %s", x.Flow, l.starts[i], l.tags[i], l.starts[ahead], l.tags[ahead])
			}
			last[x.Flow] = i
		}
	})
}

// 14.9: the fluid has at least what is queued; if nothing is lost it has just that and what is left of the packet on the link, and a WF2 tells only what the fluid has begun.
func TestQueuedIsInTheFluid(t *testing.T) {
	links(t, 149, func(l *link, begun, evict bool) {
		l.run(150, evict, func() {
			has := exact(l.t, l.d.Fluid(l.now))
			if has.Cmp(count(l.queued)) < 0 {
				l.t.Fatalf("%d bytes are queued, the fluid has %s", l.queued, has)
			}
			if !l.lost && has.Cmp(count(l.queued+max(l.free-l.now, 0))) != 0 {
				l.t.Fatalf("%d bytes are queued, %d on the link, the fluid has %s", l.queued, l.free-l.now, has)
			}
			p, ok := l.d.Peek(l.now)
			if begun && !l.lost && ok && l.free <= l.now && l.starts[p.Seq-1].Cmp(exact(l.t, l.d.Virtual(l.now))) > 0 {
				l.t.Fatalf("%v begins at V %s, its start is %s", p, text(l.d.Virtual(l.now)), l.starts[p.Seq-1])
			}
		})
	})
}

// 14.10, W2: what is sent has left by the time at which the fluid has served it, and the longest packet's.
func TestNearTheFluid(t *testing.T) {
	links(t, 1410, func(l *link, begun, evict bool) {
		l.run(150, evict && !begun, func() {})
		finish, e := fluid.Finish(l.history)
		is(l.t, "fluid.Finish", e, api.OK)
		for i, x := range l.history {
			at, ok := l.began[i+1]
			if !ok && !l.lost {
				l.t.Fatalf("%v never began", x)
			}
			if ok && count(at+x.Size-most).Cmp(exact(l.t, finish[i])) > 0 {
				l.t.Fatalf("%v left at %d, of the fluid at %s", x, at+x.Size, text(finish[i]))
			}
		}
	})
}

// 14.10, W2: a flow whose rate is at most its weight's part of the cap has a bound that hangs on it alone, whatever the others do.
func TestBoundOfAPolicedFlow(t *testing.T) {
	n := noise(14102)
	for _, k := range kinds {
		t.Run(k.name, func(t *testing.T) {
			for range 20 {
				l := linkOf(t, &n, k.make())
				weight, limit, burst := 1+n.below(5), 8+n.below(5), most+n.below(40)
				tokens, e := bucket.New(burst, float64(weight), limit, 0)
				is(t, "bucket.New", e, api.OK)
				l.open(a, weight)
				l.open(b, limit-weight)
				for ; l.now < 400 || l.busy(); l.now++ {
					for l.now < 400 && n.below(most) < 6 {
						l.handsIn(b, 1+n.below(most))
					}
					if size := 1 + n.below(most); l.now < 400 && (n.below(50) == 0 || l.now%100 > 80) {
						for tokens.Take(l.now, size) == api.OK {
							l.handsIn(a, size)
						}
					}
					l.sends()
				}
				for i, x := range l.history {
					if late := (l.began[i+1] + x.Size - x.Came - most) * weight; x.Flow == 0 && late > burst*limit {
						t.Fatalf("%v left at %d", x, l.began[i+1]+x.Size)
					}
				}
			}
		})
	}
}

// 14.10, W11: under WF2 nothing of a flow begins ahead of what the fluid has served of it.
func TestNeverFarAhead(t *testing.T) {
	n := noise(1411)
	ahead := 0
	for range 40 {
		l := linkOf(t, &n, kinds[1].make())
		l.run(100, false, func() {})
		sent := map[int]int{}
		for _, seq := range byBegin(l.began) {
			x := l.history[seq-1]
			served, e := fluid.Served(l.history, x.Flow, l.began[seq])
			is(t, "fluid.Served", e, api.OK)
			if count(sent[x.Flow]).Cmp(exact(t, served)) > 0 {
				t.Fatalf("%d bytes of the flow %d began ahead of %d, the fluid had served %s", sent[x.Flow], x.Flow, l.began[seq], text(served))
			}
			sent[x.Flow] += x.Size
			ahead++
		}
	}
	if ahead < 500 {
		t.Errorf("only %d packets began", ahead)
	}
}

// byBegin are the numbers of what began, in that order.
func byBegin(began map[int]int) []int {
	var l []int
	for seq := range began {
		l = append(l, seq)
	}
	slices.SortFunc(l, func(x, y int) int { return began[x] - began[y] })
	return l
}

// full is a discipline in which A, B and C have so many packets.
func full(t *testing.T, d queue, many int) queue {
	t.Helper()
	opened(t, d, 1, 2, 3)
	for seq := 1; seq <= many; seq++ {
		fed(t, d, pk([]api.Handle{a, b, c}[seq%3], 1+seq%7, seq, seq/4))
	}
	return d
}

// scribble writes over a list, and over the spare room behind it.
func scribble(l []api.Packet) {
	l = l[:cap(l)]
	for i := range l {
		l[i] = api.Packet{Size: -7, Seq: -7}
	}
}

// 14.11: what is told is new memory, its spare room too.
func TestNewMemory(t *testing.T) {
	for _, k := range kinds {
		x, y := full(t, k.make(), 40), full(t, k.make(), 40)
		for range 4 {
			p := pk(c, 1, 41, 10)
			for need := range 40 {
				l, e := x.Plan(p, need)
				want, wantE := y.Plan(p, need)
				same(t, "Plan", l, want, e, wantE)
				scribble(l)
			}
		}
		l, _ := x.Leave(b, 10)
		y.Leave(b, 10)
		scribble(l)
		for range 40 {
			p, ok := x.Next(20)
			want, wantOk := y.Next(20)
			alike(t, "Next", p, ok, want, wantOk)
		}
	}
}

// odd are ints that no call must stumble over.
var odd = []int{math.MinInt, math.MinInt + 1, -1, 0, 1, 2, 65536, 65537, 1 << 62, 1<<62 + 1, math.MaxInt - 1, math.MaxInt}

// 14.11: whatever it is given, each call ends and none panics, and it is what the model tells.
func TestWhateverItIsGiven(t *testing.T) {
	n := noise(1412)
	for _, k := range kinds {
		t.Run(k.name, func(t *testing.T) {
			for range 300 {
				x := pair{t, k.make(), modelOf(k.begun)}
				for range 60 {
					h := one(&n, handles)
					p := api.Packet{Flow: h, ID: one(&n, odd), Size: one(&n, odd), Seq: one(&n, odd), Came: one(&n, odd)}
					if n.below(2) == 0 {
						p.Size, p.Seq = 1+n.below(65536), x.m.seq+1
					}
					x.whatever(&n, h, p)
				}
			}
		})
	}
}

// whatever asks both something with whatever ints.
func (x pair) whatever(n *noise, h api.Handle, p api.Packet) {
	x.t.Helper()
	switch n.below(9) {
	case 0, 1:
		x.join(h, one(n, odd), one(n, odd))
	case 2:
		x.leave(h, one(n, odd))
	case 3, 4:
		x.admit(p)
	case 5:
		x.plan(p, one(n, odd))
	case 6:
		x.evict(p)
		x.tags(p)
	case 7:
		x.next(one(n, odd))
		i := one(n, odd)
		got, ok := x.d.Worst(i)
		want, wantOk := x.m.worst(i)
		alike(x.t, "Worst", got, ok, want, wantOk)
	case 8:
		x.look(n, one(n, odd))
	}
}

// A long queue of many flows is gone through in time.
func TestManyPackets(t *testing.T) {
	const flows, many = 200, 20000
	each(t, func(t *testing.T, d queue, begun bool) {
		n := noise(20000)
		for slot := range flows {
			is(t, "Join", d.Join(api.Handle{Slot: slot}, api.Params{Weight: 1 << n.below(6)}, 0), api.OK)
		}
		for seq := 1; seq <= many; seq++ {
			fed(t, d, pk(api.Handle{Slot: n.below(flows)}, 1+n.below(99), seq, 0))
		}
		last := map[api.Handle]int{}
		for tick, sent := 0, 0; sent < many; sent++ {
			p, ok := d.Next(tick)
			if !ok || p.Seq <= last[p.Flow] {
				t.Fatalf("Next: %v %v behind the number %d", p, ok, last[p.Flow])
			}
			last[p.Flow] = p.Seq
			tick += p.Size
		}
		if d.Len() != 0 {
			t.Fatalf("Len %d", d.Len())
		}
	})
}
