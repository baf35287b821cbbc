package tree_test

import (
	"math"
	"math/big"
	"slices"
	"testing"

	"millrace/api"
	"millrace/fluid"
	"millrace/rat"
	"millrace/tree"
)

// odd are ints at ends.
var odd = []int{math.MinInt, math.MinInt + 1, -65536, -2, -1, 0, 1, 2, 3, 7, 31, 32, 65535, 65536, 65537, 1 << 30, 1<<40 + 1, 1<<62 - 1, 1 << 62, 1<<62 + 1, math.MaxInt - 1, math.MaxInt}

// link sends what a tree tells, a byte a tick, and writes down what came and what began.
type link struct {
	t       *testing.T
	n       *noise
	x       *tree.Tree
	nodes   []api.Node
	longest int
	flows   map[api.Handle]int // the leaves of the open ones, of which each has a handle of its own
	weights map[api.Handle]int
	gen     int
	seq     int
	now     int
	free    int // when what is on the link has been sent
	queued  map[int]api.Packet
	began   map[int]int // bytes, by the nodes below which they began
	came    func(leaf int, p api.Packet)
	told    func(leaf int, p api.Packet)
	evicts  bool
}

func linkOf(t *testing.T, n *noise, nodes []api.Node, longest int) *link {
	t.Helper()
	x, e := tree.New(nodes)
	is(t, "New", e, api.OK)
	l := &link{t: t, n: n, x: x, nodes: nodes, longest: longest, evicts: true,
		flows: map[api.Handle]int{}, weights: map[api.Handle]int{}, queued: map[int]api.Packet{}, began: map[int]int{}}
	l.came, l.told = func(int, api.Packet) {}, func(int, api.Packet) {}
	for range 1 + n.below(8) {
		l.opens()
	}
	return l
}

// opens lets a flow come whose handle no other ever had.
func (l *link) opens() {
	l.t.Helper()
	l.gen++
	h := api.Handle{Slot: l.gen, Gen: 1}
	p := api.Params{Weight: 1 + l.n.below(9), Quantum: 1 + l.n.below(2*l.longest), Class: l.n.below(5), Span: l.n.below(90), Node: one(l.n, leavesOf(l.nodes))}
	is(l.t, "Join", l.x.Join(h, p, l.now), api.OK)
	l.flows[h], l.weights[h] = p.Node, p.Weight
}

// open are the open flows, in an order that is the same in every run.
func (l *link) open() []api.Handle {
	var open []api.Handle
	for slot := range l.gen {
		if h := (api.Handle{Slot: slot + 1, Gen: 1}); l.flows[h] > 0 {
			open = append(open, h)
		}
	}
	return open
}

func (l *link) handsIn() api.Packet {
	l.t.Helper()
	l.seq++
	p := pk(one(l.n, l.open()), 1+l.n.below(l.longest), l.seq, l.now)
	is(l.t, "Admit", l.x.Admit(p), api.OK)
	l.queued[p.Seq] = p
	l.came(l.flows[p.Flow], p)
	return p
}

func (l *link) sends() {
	l.t.Helper()
	if l.free > l.now {
		return
	}
	p, ok := l.x.Next(l.now)
	if ok != (len(l.queued) > 0) || ok && l.queued[p.Seq] != p {
		l.t.Fatalf("Next: %v %v", p, ok)
	}
	if !ok {
		return
	}
	leaf := l.flows[p.Flow]
	delete(l.queued, p.Seq)
	l.free = l.now + p.Size
	for node := leaf; node > 0; node = l.nodes[node].Parent {
		l.began[node] += p.Size
	}
	l.told(leaf, p)
}

// drops evicts the worst one.
func (l *link) drops() {
	l.t.Helper()
	p, ok := l.x.Worst(0)
	if ok {
		is(l.t, "Evict", l.x.Evict(p), api.OK)
		delete(l.queued, p.Seq)
	}
}

// closes lets a flow go, and another one come.
func (l *link) closes() {
	l.t.Helper()
	h := one(l.n, l.open())
	left, e := l.x.Leave(h, l.now)
	is(l.t, "Leave", e, api.OK)
	for _, p := range left {
		if p.Flow != h || l.queued[p.Seq] != p {
			l.t.Fatalf("Leave tells %v", p)
		}
		delete(l.queued, p.Seq)
	}
	delete(l.flows, h)
	l.opens()
}

// run lets things happen for so many ticks, and then all be sent; each is called behind each step.
func (l *link) run(ticks int, each func()) {
	l.t.Helper()
	bytes := 8 + l.n.below(8) // in ten ticks
	for ; l.now < ticks || len(l.queued) > 0; l.now++ {
		for l.now < ticks && l.n.below(5*l.longest+5+bytes) < bytes {
			l.handsIn()
			each()
		}
		if l.evicts && l.n.below(6*l.longest) == 0 {
			l.drops()
			each()
		}
		if l.evicts && l.n.below(30*l.longest) == 0 {
			l.closes()
			each()
		}
		l.sends()
		each()
		if l.x.Len() != len(l.queued) {
			l.t.Fatalf("Len %d, want %d", l.x.Len(), len(l.queued))
		}
	}
}

// rivals are two children of one node.
type rivals struct{ i, j int }

// W3: from one moment to another, two children that always have something queued get bytes by their quanta, nearly. Leaves go by no fluid, or have one: both are held.
func TestFairTurns(t *testing.T) {
	n := noise(1731)
	for range 400 {
		longest := one(&n, []int{1, 12, 60})
		l := linkOf(t, &n, anyTree(&n, 3+n.below(6)), longest)
		// What the one got more than the other, when that was least since both had something, by both quanta.
		least := map[rivals]int{}
		l.run(40*longest, func() {
			for i := 1; i < len(l.nodes); i++ {
				for j := 1; j < len(l.nodes); j++ {
					bytesI, _ := l.x.Bytes(i)
					bytesJ, _ := l.x.Bytes(j)
					if l.nodes[i].Parent != l.nodes[j].Parent || bytesI == 0 || bytesJ == 0 {
						delete(least, rivals{i, j})
						continue
					}
					qi, qj := l.nodes[i].Quantum, l.nodes[j].Quantum
					more := l.began[i]*qj - l.began[j]*qi
					low, ok := least[rivals{i, j}]
					if !ok || more < low {
						low = more
					}
					least[rivals{i, j}] = low
					if more-low > qi*qj+longest*qj+longest*qi {
						t.Fatalf("of the quanta %d and %d, with packets of %d bytes, the one got %d more", qi, qj, longest, more-low)
					}
				}
			}
		})
	}
}

// exact is a fraction as the library's.
func exact(r rat.Rat) *big.Rat {
	p, q := r.Parts()
	x, _ := new(big.Rat).SetString(p.Text() + "/" + q.Text())
	return x
}

// ledger is what came to the leaves of a link and what left them, in their own times.
type ledger struct {
	*link
	histories map[int][]api.Item // by leaves
	places    map[int]int        // in these, by the packets' numbers
	stamps    map[int]int        // by the packets' numbers
	leaves    map[int]int        // by the packets' numbers
	sender    int                // the leaf that sent last
}

// own is a leaf's time.
func (x *ledger) own(leaf int) int {
	x.t.Helper()
	own, e := x.x.Time(leaf, x.now)
	is(x.t, "Time", e, api.OK)
	return own
}

func ledgerOf(l *link) *ledger {
	x := &ledger{link: l, histories: map[int][]api.Item{}, places: map[int]int{}, stamps: map[int]int{}, leaves: map[int]int{}}
	l.came = func(leaf int, p api.Packet) {
		x.places[p.Seq] = len(x.histories[leaf])
		x.leaves[p.Seq] = leaf
		x.histories[leaf] = append(x.histories[leaf], api.Item{Flow: p.Flow.Slot, Weight: l.weights[p.Flow], Size: p.Size, Came: x.own(leaf)})
	}
	l.told = func(leaf int, p api.Packet) {
		// It is on the link from now on, so the leaf's time goes on with it to its stamp.
		x.stamps[p.Seq] = x.own(leaf) + p.Size
		x.sender = leaf
	}
	return x
}

// left is how many bytes of a leaf are not sent.
func (x *ledger) left(leaf int) int {
	x.t.Helper()
	bytes, e := x.x.Bytes(leaf)
	is(x.t, "Bytes", e, api.OK)
	if x.sender == leaf {
		bytes += max(x.free-x.now, 0)
	}
	return bytes
}

// served is how many bytes of a history the fluid has served at a tick.
func (x *ledger) served(history []api.Item, at int) *big.Rat {
	sum, seen := new(big.Rat), map[int]bool{}
	for _, item := range history {
		if seen[item.Flow] {
			continue
		}
		seen[item.Flow] = true
		bytes, e := fluid.Served(history, item.Flow, at)
		is(x.t, "fluid.Served", e, api.OK)
		sum.Add(sum, exact(bytes))
	}
	return sum
}

// ledgers runs links over random trees that have a leaf with a fluid, every second one of them with evictions.
func ledgers(t *testing.T, seed uint64, rounds int, test func(x *ledger)) {
	t.Helper()
	n := noise(seed)
	for round := range rounds {
		nodes := anyTree(&n, 3+n.below(5))
		nodes[len(nodes)-1].Kind, nodes[len(nodes)-1].Age = one(&n, []int{api.WFQ, api.WF2}), 0
		l := linkOf(t, &n, nodes, 12)
		l.evicts = round%2 == 0
		test(ledgerOf(l))
	}
}

// W16: in the leaf's time what a leaf with a fluid sends has left soon behind its fluid, which is that of chapter 12, fed all that came at the leaf's times.
func TestNearTheLeafsFluid(t *testing.T) {
	held := 0
	ledgers(t, 1716, 300, func(x *ledger) {
		x.run(200, func() {})
		finishes := map[int][]rat.Rat{}
		for leaf, history := range x.histories {
			finish, e := fluid.Finish(history)
			is(t, "fluid.Finish", e, api.OK)
			finishes[leaf] = finish
		}
		for seq, stamp := range x.stamps {
			leaf := x.leaves[seq]
			if k := x.nodes[leaf].Kind; k != api.WFQ && (k != api.WF2 || x.evicts) {
				continue
			}
			held++
			finish := exact(finishes[leaf][x.places[seq]])
			if big.NewRat(int64(stamp-x.longest), 1).Cmp(finish) > 0 {
				t.Fatalf("number %d left at the leaf's time %d, of its fluid at %s", seq, stamp, finish)
			}
		}
	})
	if held < 2000 {
		t.Fatalf("only %d packets were held against a fluid", held)
	}
}

// 17.3: a leaf's fluid, in the leaf's time, has at least what is queued of the leaf; if nothing is lost it has just that, and what is left of its packet on the link.
func TestTheFluidServesWhatTheLeafHas(t *testing.T) {
	ledgers(t, 173, 60, func(x *ledger) {
		x.run(150, func() {
			for leaf, history := range x.histories {
				if x.n.below(10) > 0 {
					continue
				}
				came := 0
				for _, item := range history {
					came += item.Size
				}
				has := new(big.Rat).Sub(big.NewRat(int64(came), 1), x.served(history, x.own(leaf)))
				bytes, _ := x.x.Bytes(leaf)
				if has.Cmp(big.NewRat(int64(bytes), 1)) < 0 {
					t.Fatalf("the leaf %d has %d bytes queued, its fluid %s", leaf, bytes, has)
				}
				if left := x.left(leaf); !x.evicts && has.Cmp(big.NewRat(int64(left), 1)) != 0 {
					t.Fatalf("the leaf %d has %d bytes that are not sent, its fluid %s", leaf, left, has)
				}
			}
		})
	})
}

// 13.13, 13.14: plans go on, can be evicted in their order, are enough, and would not be without their last one; the worst are all.
func TestPlansAndWorstOnes(t *testing.T) {
	n := noise(1314)
	for range 120 {
		l := linkOf(t, &n, anyTree(&n, 2+n.below(7)), 9)
		l.run(60, func() {})
		for range n.below(30) {
			l.handsIn()
		}
		var all []api.Packet
		for k := range l.x.Len() {
			p, ok := l.x.Worst(k)
			if !ok || l.queued[p.Seq] != p || slices.Contains(all, p) {
				t.Fatalf("Worst(%d): %v %v behind %v", k, p, ok, all)
			}
			if slices.ContainsFunc(all, func(x api.Packet) bool { return x.Flow == p.Flow && x.Seq < p.Seq }) {
				t.Fatalf("Worst(%d): %v behind one of its flow that came ahead of it", k, p)
			}
			all = append(all, p)
		}
		p := pk(one(&n, l.open()), 1+n.below(9), l.seq+1, l.now)
		var last []api.Packet
		for need := 1; ; need++ {
			found, e := l.x.Plan(p, need)
			if e == api.ErrRefused {
				break
			}
			is(t, "Plan", e, api.OK)
			if len(found) < len(last) || !slices.Equal(found[:len(last)], last) {
				t.Fatalf("Plan for %d: %v behind %v", need, found, last)
			}
			if sum := sizes(found); sum < need || sum-found[len(found)-1].Size >= need {
				t.Fatalf("Plan for %d: %v", need, found)
			}
			last = found
		}
		for _, victim := range last {
			is(t, "Evict of what was told", l.x.Evict(victim), api.OK)
		}
		found, e := l.x.Plan(p, 1)
		refuses(t, "Plan behind all that was told", found, e, api.ErrRefused)
		is(t, "Admit behind all", l.x.Admit(p), api.OK)
	}
}

// 13.6: whatever is looked at changes nothing that comes behind it.
func TestLooksChangeNothing(t *testing.T) {
	for seed := range 40 {
		n, m := noise(seed), noise(seed)
		nodes := anyTree(&n, 2+seed%7)
		x, y := linkOf(t, &n, nodes, 12), linkOf(t, &m, anyTree(&m, 2+seed%7), 12)
		var told, want []api.Packet
		x.told = func(_ int, p api.Packet) { told = append(told, p) }
		y.told = func(_ int, p api.Packet) { want = append(want, p) }
		other := noise(seed + 99)
		x.run(200, func() {
			for node := range nodes {
				x.x.Ring(node)
				x.x.Time(node, x.now-other.below(3))
				x.x.Deficit(node)
				x.x.Turn(node)
				x.x.Bytes(node)
			}
			x.x.Peek(x.now)
			x.x.Worst(other.below(5))
			x.x.Weight(x.now)
			x.x.Plan(pk(one(&other, x.open()), 1, x.seq+1, x.now), other.below(30))
		})
		y.run(200, func() {})
		same(t, "what was told", told, want, api.OK, api.OK)
	}
}

// 17.17: whatever ints are given, each call ends.
func TestWhateverIsGiven(t *testing.T) {
	n := noise(1717)
	any := func() api.Packet {
		return api.Packet{Flow: api.Handle{Slot: one(&n, odd), Gen: one(&n, odd)}, ID: one(&n, odd), Size: one(&n, odd), Seq: one(&n, odd), Came: one(&n, odd)}
	}
	for range 300 {
		var odds []api.Node
		for range n.below(40) {
			odds = append(odds, api.Node{Kind: one(&n, odd), Parent: one(&n, odd), Quantum: one(&n, odd), Age: one(&n, odd)})
		}
		if x, e := tree.New(odds); x != nil || e == api.OK {
			t.Fatalf("New of %v", odds)
		}
	}
	for range 40 {
		x, e := tree.New(anyTree(&n, 2+n.below(31)))
		is(t, "New", e, api.OK)
		for seq := range 200 {
			p := any()
			x.Join(p.Flow, api.Params{Weight: p.Seq, Quantum: one(&n, odd), Class: one(&n, odd), Span: p.Came, Node: n.below(32)}, one(&n, odd))
			x.Join(any().Flow, api.Params{Node: one(&n, odd)}, one(&n, odd))
			q := any()
			q.Flow = p.Flow
			x.Plan(q, one(&n, odd))
			x.Admit(q)
			good := pk(p.Flow, one(&n, []int{1, 2, 65536}), seq+1, 0)
			x.Plan(good, one(&n, odd))
			x.Admit(good)
			x.Evict(any())
			x.Evict(good)
			x.Admit(good)
			worst, _ := x.Worst(one(&n, odd))
			x.Evict(worst)
			x.Peek(one(&n, odd))
			x.Weight(one(&n, odd))
			x.Deficit(one(&n, odd))
			x.Bytes(one(&n, odd))
			x.Turn(one(&n, odd))
			x.Time(one(&n, odd), one(&n, odd))
			if n.below(4) == 0 {
				x.Next(one(&n, odd))
				x.Leave(q.Flow, one(&n, odd))
			}
			if len(x.Ring(one(&n, odd))) > x.Len() {
				t.Fatalf("Ring %v, Len %d", x.Ring(0), x.Len())
			}
		}
	}
}

// scribble writes over a list and the spare room behind it.
func scribble[T any](l []T, v T) {
	l = l[:cap(l)]
	for i := range l {
		l[i] = v
	}
}

// 17.17: whoever writes into what was told changes nothing else.
func TestWhatIsToldIsNewMemory(t *testing.T) {
	n := noise(17171)
	bad := pk(b, -7, -7, -7)
	for range 60 {
		l := linkOf(t, &n, anyTree(&n, 3+n.below(6)), 12)
		for range 40 {
			l.handsIn()
		}
		for node := range l.nodes {
			want := slices.Clone(l.x.Ring(node))
			scribble(l.x.Ring(node), -7)
			if ring := l.x.Ring(node); !slices.Equal(ring, want) {
				t.Fatalf("Ring behind a scribble: %v, want %v", ring, want)
			}
		}
		p := pk(one(&n, l.open()), 1, l.seq+1, 0)
		first, e := l.x.Plan(p, 3)
		second, _ := l.x.Plan(p, 3)
		want := slices.Clone(first)
		scribble(first, bad)
		same(t, "Plan told ahead of a scribble", second, want, e, e)
		second, _ = l.x.Plan(p, 3)
		same(t, "Plan behind a scribble", second, want, e, e)
		h := one(&n, l.open())
		left, _ := l.x.Leave(h, 0)
		for _, p := range left {
			delete(l.queued, p.Seq)
		}
		scribble(left, bad)
		delete(l.flows, h)
		l.opens()
		l.run(0, func() {})
	}
}

// A deep tree, and a wide one, are gone through in time.
func TestManyPackets(t *testing.T) {
	deep, wide := []api.Node{root}, []api.Node{root}
	for i := range 15 {
		deep = append(deep, inner(2*i, 1), leaf(api.EDF, 2*i, 1))
		deep[2*i+1], deep[2*i+2] = deep[2*i+2], deep[2*i+1]
	}
	deep = append(deep, leaf(api.WFQ, 30, 1))
	for range 31 {
		wide = append(wide, leaf(api.DRR, 0, 1))
	}
	for _, nodes := range [][]api.Node{deep, wide} {
		n := noise(100000)
		x, e := tree.New(nodes)
		is(t, "New", e, api.OK)
		leaves := leavesOf(nodes)
		for i, leaf := range leaves {
			is(t, "Join", x.Join(api.Handle{Slot: i, Gen: 1}, api.Params{Weight: 1, Node: leaf}, 0), api.OK)
		}
		for seq := 1; seq <= 5000; seq++ {
			fed(t, x, pk(api.Handle{Slot: n.below(len(leaves)), Gen: 1}, 1+n.below(65536), seq, 0))
		}
		p := pk(a, 1, 5001, 0)
		if l, e := x.Plan(p, 65536*20); e != api.OK || sizes(l) < 65536*20 {
			t.Fatalf("Plan: %d %d", len(l), e)
		}
		now := 0
		for x.Len() > 0 {
			p, ok := x.Next(now)
			if !ok {
				t.Fatalf("Next tells nothing of %d", x.Len())
			}
			now += p.Size
			if worst, ok := x.Worst(0); ok && n.below(2) == 0 {
				is(t, "Evict", x.Evict(worst), api.OK)
			}
		}
	}
}
