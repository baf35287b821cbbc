package tree_test

import (
	"math"
	"slices"
	"testing"

	"millrace/api"
	"millrace/conf"
	"millrace/disc"
	"millrace/drr"
	"millrace/due"
	"millrace/tree"
	"millrace/wfq"
)

var (
	a, b, c = api.Handle{Slot: 0, Gen: 1}, api.Handle{Slot: 1, Gen: 1}, api.Handle{Slot: 2, Gen: 1}
	root    = api.Node{Kind: api.TREE}
)

func pk(h api.Handle, size, seq, came int) api.Packet {
	return api.Packet{Flow: h, Size: size, Seq: seq, Came: came}
}

func is(t *testing.T, what string, got, want api.Errno) {
	t.Helper()
	if got != want {
		t.Fatalf("%s: %d, want %d", what, got, want)
	}
}

// reads holds a number and what stands beside it against those that they should be.
func reads[E comparable](t *testing.T, what string, got int, e E, want int, wantE E) {
	t.Helper()
	if got != want || e != wantE {
		t.Fatalf("%s: %d %v, want %d %v", what, got, e, want, wantE)
	}
}

// numbers holds a list of packets against their numbers.
func numbers(t *testing.T, what string, l []api.Packet, e api.Errno, want ...int) {
	t.Helper()
	is(t, what, e, api.OK)
	var got []int
	for _, p := range l {
		got = append(got, p.Seq)
	}
	if !slices.Equal(got, want) {
		t.Fatalf("%s: %v, want %v", what, got, want)
	}
}

// refuses holds an error against the one that it should be, and looks that nothing stands beside it.
func refuses(t *testing.T, what string, l []api.Packet, e, want api.Errno) {
	t.Helper()
	if e != want || len(l) != 0 {
		t.Fatalf("%s: %v %d, want %d", what, l, e, want)
	}
}

// tells holds a packet against its number, 0 being none.
func tells(t *testing.T, what string, p api.Packet, ok bool, seq int) {
	t.Helper()
	if p.Seq != seq || ok != (seq > 0) || !ok && p != (api.Packet{}) {
		t.Fatalf("%s: %v %v, want %d", what, p, ok, seq)
	}
}

// next holds what Peek and Next tell at a tick against a number.
func next(t *testing.T, x *tree.Tree, at, seq int) {
	t.Helper()
	p, ok := x.Peek(at)
	tells(t, "Peek", p, ok, seq)
	p, ok = x.Next(at)
	tells(t, "Next", p, ok, seq)
}

// worsts holds all worst ones against their numbers.
func worsts(t *testing.T, x *tree.Tree, want ...int) {
	t.Helper()
	for n, seq := range append(want, 0, 0) {
		p, ok := x.Worst(n)
		tells(t, "Worst", p, ok, seq)
	}
}

// turnOf holds what is told of a node against who should have the turn (0: nobody) and who should stand in the ring.
func turnOf(t *testing.T, x *tree.Tree, node, holder int, ring ...int) {
	t.Helper()
	got, ok := x.Turn(node)
	reads(t, "Turn", got, ok, holder, holder > 0)
	if l := x.Ring(node); !slices.Equal(l, ring) {
		t.Fatalf("Ring of %d: %v, want %v", node, l, ring)
	}
}

// deficits holds those of the nodes from number 1 on against what they should be.
func deficits(t *testing.T, x *tree.Tree, want ...int) {
	t.Helper()
	for i, n := range want {
		got, e := x.Deficit(i + 1)
		reads(t, "Deficit", got, e, n, api.OK)
	}
}

// at holds a leaf's time against what it should be.
func at(t *testing.T, x *tree.Tree, leaf, tick, want int) {
	t.Helper()
	got, e := x.Time(leaf, tick)
	reads(t, "Time", got, e, want, api.OK)
}

// grown is a tree of these nodes below the root, with a flow at each leaf, whose slot is the leaf's place among the leaves.
func grown(t *testing.T, nodes ...api.Node) *tree.Tree {
	t.Helper()
	nodes = append([]api.Node{root}, nodes...)
	x, e := tree.New(nodes)
	is(t, "New", e, api.OK)
	for i, leaf := range leavesOf(nodes) {
		is(t, "Join", x.Join(api.Handle{Slot: i, Gen: 1}, api.Params{Weight: 1, Quantum: 1, Node: leaf}, 0), api.OK)
	}
	return x
}

// fed admits packets.
func fed(t *testing.T, d disc.Discipline, l ...api.Packet) {
	t.Helper()
	for _, p := range l {
		is(t, "Admit", d.Admit(p), api.OK)
	}
}

// leaf is a node below the root, and inner one with children.
func leaf(kind, parent, quantum int) api.Node {
	return api.Node{Kind: kind, Parent: parent, Quantum: quantum}
}

func inner(parent, quantum int) api.Node { return leaf(api.TREE, parent, quantum) }

// 17.1: what conf says is wrong with the nodes.
func TestNew(t *testing.T) {
	many := []api.Node{root}
	for range 32 {
		many = append(many, leaf(api.EDF, 0, 1))
	}
	for i, l := range [][]api.Node{
		nil, {}, {root}, {{Kind: api.WFQ}}, many, {root, inner(0, 1)}, {root, leaf(0, 0, 1)}, {root, leaf(api.DRR, 1, 1)},
		{root, leaf(api.DRR, -1, 1)}, {root, leaf(api.DRR, math.MaxInt, 1)}, {root, leaf(api.DRR, 0, 0)}, {root, leaf(api.DRR, 0, 1<<30+1)},
		{root, {Kind: api.EDF, Quantum: 1, Age: 1}}, {root, {Kind: api.AGE, Quantum: 1, Age: -1}}, {{Kind: api.TREE, Quantum: 1}, leaf(api.DRR, 0, 1)},
	} {
		want := conf.CheckNodes(l)
		if x, e := tree.New(l); x != nil || e != want || e == api.OK {
			t.Errorf("list %d: %v %d, want %d", i, x, e, want)
		}
	}
	x, e := tree.New(many[:32])
	if x == nil || e != api.OK || x.Len() != 0 || x.Weight(0) != 0 {
		t.Fatalf("New of 32 nodes: %v %d", x, e)
	}
}

// 17.1: two have nothing in common, and neither holds on to the list of nodes.
func TestTwoApart(t *testing.T) {
	nodes := append(make([]api.Node, 0, 9), root, leaf(api.EDF, 0, 5), leaf(api.DRR, 0, 5))
	x, _ := tree.New(nodes)
	y, _ := tree.New(nodes)
	clear(nodes)
	_ = append(nodes, inner(0, 1))
	is(t, "Join", x.Join(a, api.Params{Weight: 7, Node: 1}, 9), api.OK)
	fed(t, x, pk(a, 5, 1, 9))
	if y.Len() != 0 || y.Weight(0) != 0 || len(y.Ring(0)) != 0 {
		t.Fatal("one knows of the other's")
	}
	at(t, y, 1, 3, 3)
	is(t, "Join", y.Join(a, api.Params{Weight: 1, Node: 2}, 3), api.OK)
	fed(t, y, pk(a, 4, 1, 3))
	next(t, y, 3, 1)
	if x.Len() != 1 || x.Weight(0) != 7 {
		t.Fatal("one knows of the other's")
	}
	turnOf(t, x, 0, 0, 1)
}

// alone is what a leaf of each kind is to be.
func alone() map[int]disc.Discipline {
	return map[int]disc.Discipline{api.WFQ: wfq.New(), api.WF2: wfq.New2(), api.DRR: drr.New(), api.EDF: due.NewEDF(), api.AGE: due.NewAge(7)}
}

// 17.1: a tree of one leaf tells what that leaf's discipline tells by itself, as long as what is told is sent: also through nodes on the way.
func TestOneLeafIsItsDiscipline(t *testing.T) {
	n := noise(171)
	for kind, d := range alone() {
		for _, way := range [][]api.Node{{leaf(kind, 0, 3)}, {inner(0, 2), inner(1, 40), leaf(kind, 2, 1)}} {
			d = alone()[kind]
			nodes := append([]api.Node{root}, way...)
			last := len(nodes) - 1
			if kind == api.AGE {
				nodes[last].Age = 7
			}
			x, e := tree.New(nodes)
			is(t, "New", e, api.OK)
			for _, h := range handles[:4] {
				p := api.Params{Weight: 1 + n.below(9), Quantum: 1 + n.below(30), Class: n.below(16), Span: n.below(60), Node: last}
				is(t, "Join", x.Join(h, p, 0), api.OK)
				is(t, "Join", d.Join(h, p, 0), api.OK)
			}
			seq, free := 0, 0
			for now := range 900 {
				for n.below(12) == 0 && now < 500 {
					seq++
					p := pk(one(&n, handles[:4]), 1+n.below(12), seq, now)
					got, e := x.Plan(p, 5)
					want, wantE := d.Plan(p, 5)
					same(t, "Plan", got, want, e, wantE)
					fed(t, x, p)
					fed(t, d, p)
				}
				for k := range d.Len() {
					got, ok := x.Worst(k)
					want, wantOk := d.Worst(k)
					alike(t, "Worst", got, ok, want, wantOk)
				}
				if free > now {
					continue
				}
				got, ok := x.Next(now)
				want, wantOk := d.Next(now)
				alike(t, "Next", got, ok, want, wantOk)
				free = now + got.Size
			}
		}
	}
}

// 17.2: who may join, and the order of the errors.
func TestJoin(t *testing.T) {
	x, _ := tree.New([]api.Node{root, leaf(api.EDF, 0, 1), inner(0, 1), leaf(api.WFQ, 2, 1)})
	for _, node := range []int{math.MinInt, -1, 0, 2, 4, 32, math.MaxInt} {
		is(t, "Join at no leaf", x.Join(a, api.Params{Node: node}, 0), api.ErrArg)
	}
	is(t, "Join", x.Join(a, api.Params{Node: 3}, 0), api.OK)
	for _, node := range []int{3, 1, 0, 2, -1} {
		is(t, "Join again", x.Join(a, api.Params{Node: node}, 0), api.ErrHandle)
		is(t, "Join at its slot", x.Join(api.Handle{Slot: 0, Gen: 2}, api.Params{Node: node}, 0), api.ErrHandle)
	}
	is(t, "Join of another at another leaf", x.Join(b, api.Params{Node: 1}, 0), api.OK)
	l, e := x.Leave(api.Handle{Slot: 0, Gen: 2}, 0)
	refuses(t, "Leave of another generation", l, e, api.ErrHandle)
	l, e = x.Leave(c, 0)
	refuses(t, "Leave of one that never joined", l, e, api.ErrHandle)
	l, e = x.Leave(a, 0)
	numbers(t, "Leave", l, e)
	l, e = x.Leave(a, 0)
	refuses(t, "Leave again", l, e, api.ErrHandle)
	is(t, "Join in its slot, at another leaf", x.Join(api.Handle{Slot: 0, Gen: 2}, api.Params{Node: 1}, 0), api.OK)
	is(t, "Admit of the one that left", x.Admit(pk(a, 1, 1, 0)), api.ErrHandle)
	fed(t, x, pk(api.Handle{Slot: 0, Gen: 2}, 5, 1, 0))
	for node, want := range []int{5, 5, 0, 0} {
		got, e := x.Bytes(node)
		reads(t, "Bytes", got, e, want, api.OK)
	}
}

// 17.2: whoever leaves takes along what it has queued at its leaf, the first one first.
func TestLeave(t *testing.T) {
	x := grown(t, leaf(api.WF2, 0, 9), leaf(api.DRR, 0, 9))
	is(t, "Join", x.Join(c, api.Params{Weight: 1, Node: 1}, 0), api.OK)
	fed(t, x, pk(a, 5, 1, 2), pk(c, 5, 2, 3), pk(a, 1, 4, 7), pk(b, 2, 6, 7))
	l, e := x.Leave(a, 9)
	same(t, "Leave", l, []api.Packet{pk(a, 5, 1, 2), pk(a, 1, 4, 7)}, e, api.OK)
	turnOf(t, x, 0, 0, 1, 2)
	l, e = x.Leave(c, 9)
	same(t, "Leave", l, []api.Packet{pk(c, 5, 2, 3)}, e, api.OK)
	turnOf(t, x, 0, 0, 2)
	got, e := x.Bytes(0)
	reads(t, "Bytes", got, e, 2, api.OK)
	next(t, x, 9, 6)
	next(t, x, 9, 0)
}

// 17.2: numbers and ticks are looked at over the whole tree; one that is refused leaves none.
func TestWhatMayNotCome(t *testing.T) {
	x := grown(t, leaf(api.WFQ, 0, 1), leaf(api.AGE, 0, 1), leaf(api.DRR, 0, 1))
	for _, p := range []api.Packet{pk(a, 1, 0, 0), pk(b, 1, -1, 0), pk(c, 1, math.MinInt, 0), pk(a, 1, 1, -1), pk(b, 1, 1, math.MinInt)} {
		is(t, "the first Admit", x.Admit(p), api.ErrArg)
	}
	fed(t, x, pk(b, 1, 5, 9))
	for _, flow := range []api.Handle{a, b, c} {
		for p, want := range map[api.Packet]api.Errno{
			pk(flow, 1, 5, 9):                 api.ErrArg,
			pk(flow, 1, 0, 9):                 api.ErrArg,
			pk(flow, 1, 6, 8):                 api.ErrArg,
			pk(flow, 1, 6, -1):                api.ErrArg,
			pk(flow, 0, 6, 9):                 api.ErrArg,
			pk(flow, -1, 6, 9):                api.ErrArg,
			pk(flow, 65537, 6, 9):             api.ErrArg,
			pk(flow, math.MaxInt, 6, 9):       api.ErrArg,
			pk(api.Handle{Slot: 0}, 0, 0, -1): api.ErrHandle,
			pk(api.Handle{Slot: 7}, 1, 6, 9):  api.ErrHandle,
		} {
			is(t, "Admit", x.Admit(p), want)
			for _, need := range []int{math.MinInt, 0, 1, math.MaxInt} {
				l, e := x.Plan(p, need)
				refuses(t, "Plan", l, e, want)
			}
		}
	}
	if x.Len() != 1 {
		t.Fatalf("Len %d", x.Len())
	}
	fed(t, x, pk(c, 65536, 6, 9), pk(a, 1, 7, 9))
}

// 17.2: the ends of the ticks. A leaf with a fluid is handed its own time, so it is that which must not be above MaxTime.
func TestLastTick(t *testing.T) {
	for _, far := range []int{1<<62 + 1, math.MaxInt} {
		x := grown(t, leaf(api.DRR, 0, 1), leaf(api.EDF, 0, 1), leaf(api.WFQ, 0, 1))
		fed(t, x, pk(a, 1, 1, 1<<62), pk(b, 1, 2, 1<<62), pk(c, 1, 3, 1<<62))
		for _, flow := range []api.Handle{a, b, c} {
			is(t, "Admit too late", x.Admit(pk(flow, 1, 4, far)), api.ErrArg)
		}
		at(t, x, 1, 0, 1<<62)
		x.Evict(pk(a, 1, 1, 0))
		at(t, x, 1, math.MaxInt, 1<<62+(math.MaxInt-far))
		fed(t, x, pk(a, 1, 4, 1<<62), pk(c, 1, 5, 1<<62)) // c's leaf stands still at 1<<62
		is(t, "Evict", x.Evict(pk(c, 1, 5, 0)), api.OK)
		is(t, "Evict", x.Evict(pk(c, 1, 3, 0)), api.OK)
		is(t, "Admit at a leaf's last time", x.Admit(pk(c, 1, 6, 1<<62)), api.OK)
	}
}

// 17.2: what a leaf refuses is refused, and changes nothing: here a tag that is too deep.
func TestDeep(t *testing.T) {
	for _, kind := range []int{api.WFQ, api.WF2} {
		n := noise(172)
		x, twin := grown(t, leaf(kind, 0, 1), leaf(api.EDF, 0, 1)), alone()[kind]
		is(t, "Join", twin.Join(a, api.Params{Weight: 1}, 0), api.OK)
		e := api.OK
		p := api.Packet{}
		for now := 0; e == api.OK; now += 1 + n.below(8) {
			// What comes leaves at once, but the fluid still has it: so V hangs on all that came.
			h := api.Handle{Slot: 9, Gen: now}
			weight := 1000 + n.below(3097)
			is(t, "Join", x.Join(h, api.Params{Weight: weight, Node: 1}, now), api.OK)
			is(t, "Join", twin.Join(h, api.Params{Weight: weight}, now), api.OK)
			p = pk(h, 20+n.below(40), p.Seq+1, now)
			e = twin.Admit(p)
			is(t, "Admit", x.Admit(p), e)
			if p.Seq > 5000 {
				t.Fatal("the denominators do not grow")
			}
			if e == api.OK {
				x.Leave(h, now)
				twin.Leave(h, now)
			}
		}
		is(t, "the last Admit", e, api.ErrDeep)
		for _, need := range []int{0, 1, math.MaxInt} {
			l, e := x.Plan(p, need)
			refuses(t, "Plan", l, e, api.ErrDeep)
		}
		late := p
		late.Came = -1
		is(t, "Admit of what is wrong otherwise too", x.Admit(late), api.ErrArg)
		if x.Len() != 0 {
			t.Fatalf("Len %d", x.Len())
		}
		p.Flow = b
		fed(t, x, p) // its number is free
	}
}

// 17.2: evicting is by flow and number, and only of a flow's last one.
func TestEvict(t *testing.T) {
	x := grown(t, leaf(api.WFQ, 0, 4), inner(0, 4), leaf(api.EDF, 2, 4))
	fed(t, x, pk(a, 5, 1, 0), pk(b, 6, 2, 0), pk(a, 7, 3, 0), pk(b, 8, 4, 0))
	for _, p := range []api.Packet{pk(a, 5, 1, 0), pk(b, 6, 2, 0), pk(a, 8, 4, 0), pk(b, 7, 3, 0), pk(a, 7, 0, 0), pk(a, 7, 5, 0), pk(c, 7, 3, 0), pk(api.Handle{Slot: 0, Gen: 2}, 7, 3, 0), {}} {
		is(t, "Evict", x.Evict(p), api.ErrItem)
	}
	if x.Len() != 4 {
		t.Fatalf("Len %d", x.Len())
	}
	is(t, "Evict by flow and number alone", x.Evict(api.Packet{Flow: b, ID: 3, Size: -9, Seq: 4, Came: 99}), api.OK)
	for node, want := range []int{18, 12, 6, 6} {
		got, e := x.Bytes(node)
		reads(t, "Bytes", got, e, want, api.OK)
	}
	is(t, "Evict", x.Evict(pk(b, 6, 2, 0)), api.OK)
	turnOf(t, x, 0, 0, 1)
	turnOf(t, x, 2, 0)
	next(t, x, 0, 1)
	is(t, "Evict of what was told", x.Evict(pk(a, 5, 1, 0)), api.ErrItem)
}

// 17.2: bytes of a node are those of all leaves below it.
func TestBytes(t *testing.T) {
	x := grown(t, inner(0, 1), leaf(api.DRR, 1, 1), inner(1, 1), leaf(api.EDF, 3, 1), leaf(api.WFQ, 0, 1))
	fed(t, x, pk(a, 3, 1, 0), pk(b, 20, 2, 0), pk(b, 100, 3, 0), pk(c, 5000, 4, 0))
	for node, want := range []int{5123, 123, 3, 120, 120, 5000} {
		got, e := x.Bytes(node)
		reads(t, "Bytes", got, e, want, api.OK)
	}
	for _, node := range []int{math.MinInt, -1, 6, 32, math.MaxInt} {
		got, e := x.Bytes(node)
		reads(t, "Bytes", got, e, 0, api.ErrArg)
	}
}

// 17.2, 17.3: the weights of all leaves count, and of a leaf with a fluid those of closed flows that the fluid has, in the leaf's time.
func TestWeight(t *testing.T) {
	for _, kind := range []int{api.WFQ, api.WF2} {
		x, _ := tree.New([]api.Node{root, leaf(kind, 0, 1), leaf(api.DRR, 0, 1)})
		is(t, "Join", x.Join(a, api.Params{Weight: 100, Node: 1}, 0), api.OK)
		is(t, "Join", x.Join(b, api.Params{Weight: 10, Node: 2}, 0), api.OK)
		is(t, "Join", x.Join(c, api.Params{Weight: 1, Node: 1}, 0), api.OK)
		weighs := func(at, want int) {
			t.Helper()
			if got := x.Weight(at); got != want {
				t.Fatalf("Weight(%d): %d, want %d", at, got, want)
			}
		}
		fed(t, x, pk(a, 10, 1, 0), pk(b, 30, 2, 0), pk(c, 1, 3, 0))
		weighs(0, 111)
		x.Leave(a, 0)
		x.Leave(b, 0)
		// The leaf has c's packet queued, so its fluid stands still.
		weighs(500, 101)
		next(t, x, 500, 3)
		// From then on it serves its eleven bytes; a's last one at the end.
		weighs(510, 101)
		weighs(511, 1)
		x.Leave(c, 511)
		weighs(511, 0)
	}
}

// 17.3: a leaf's time stands still while it waits, and goes on while it is idle or its packet is on the link; of each kind of leaf.
func TestTime(t *testing.T) {
	for _, kind := range leafKinds {
		x := grown(t, leaf(kind, 0, 10), leaf(api.EDF, 0, 10), leaf(kind, 0, 10))
		at(t, x, 1, 4, 4)
		at(t, x, 1, 2, 4)
		at(t, x, 1, -1, 4)
		at(t, x, 1, 10, 10)
		fed(t, x, pk(a, 5, 1, 10), pk(a, 5, 2, 10), pk(b, 5, 3, 12))
		at(t, x, 1, 20, 10) // it waits
		at(t, x, 2, 20, 12)
		at(t, x, 3, 20, 20)
		next(t, x, 20, 1)
		at(t, x, 1, 23, 13) // its packet is on the link
		at(t, x, 1, 25, 15)
		at(t, x, 1, 29, 15) // the link is free
		at(t, x, 2, 29, 12)
		next(t, x, 29, 2)
		at(t, x, 1, 90, 76) // nothing of it is queued
		at(t, x, 2, 90, 12)
		fed(t, x, pk(a, 1, 4, 90))
		at(t, x, 1, 100, 76)
		is(t, "Evict", x.Evict(pk(a, 1, 4, 90)), api.OK)
		at(t, x, 1, 100, 76)
		at(t, x, 1, 101, 77)
		for _, leaf := range []int{math.MinInt, -1, 0, 4, math.MaxInt} {
			got, e := x.Time(leaf, 110)
			reads(t, "Time of none", got, e, 0, api.ErrArg)
		}
		at(t, x, 3, 0, 110) // the tick counts all the same
	}
}

// 17.3: a packet is on the link no longer than till the next one is told; that nothing is told, or looked at, ends nothing.
func TestOnTheLink(t *testing.T) {
	x := grown(t, leaf(api.WFQ, 0, 50), leaf(api.DRR, 0, 50))
	fed(t, x, pk(a, 50, 1, 0), pk(a, 50, 2, 0), pk(b, 50, 3, 0))
	next(t, x, 0, 1)
	at(t, x, 1, 10, 10)
	p, ok := x.Peek(12)
	tells(t, "Peek", p, ok, 3)
	at(t, x, 1, 20, 20)
	next(t, x, 30, 3) // the quantum is spent: it is the other one's turn
	at(t, x, 1, 40, 30)
	at(t, x, 2, 40, 10)
	next(t, x, 45, 2)
	fed(t, x, pk(b, 50, 4, 50), pk(a, 3, 5, 50))
	at(t, x, 1, 70, 55) // its packet is on the link from 45 on
	at(t, x, 2, 70, 20) // it was idle from 40 to 50
	next(t, x, 95, 4)
	next(t, x, 96, 5)
	next(t, x, 97, 0)
	at(t, x, 1, 97, 81)
}

// 17.3: a flow that leaves while its packet is on the link leaves the leaf's time going on.
func TestLeavesTheLink(t *testing.T) {
	x := grown(t, leaf(api.WF2, 0, 1))
	is(t, "Join", x.Join(b, api.Params{Weight: 1, Node: 1}, 0), api.OK)
	fed(t, x, pk(a, 10, 1, 0), pk(b, 20, 2, 0))
	next(t, x, 5, 1)
	x.Leave(a, 7)
	at(t, x, 1, 7, 2)
	at(t, x, 1, 14, 9)
	at(t, x, 1, 30, 10)
}

// 17.3: packets come to a leaf's fluid at the leaf's time; what is told has its true tick.
func TestTrueTicks(t *testing.T) {
	x := grown(t, leaf(api.WFQ, 0, 100), leaf(api.EDF, 0, 100))
	is(t, "Join", x.Join(c, api.Params{Weight: 9, Node: 1}, 0), api.OK)
	first, second, third := pk(a, 10, 1, 0), pk(b, 1, 2, 0), pk(c, 80, 3, 30)
	fed(t, x, first, second, third)
	// At the leaf's time 0 the third one has the tag 80/9. By the tree's tick it would be 30 and that.
	for _, want := range []api.Packet{third, first} {
		got, ok := x.Peek(40)
		alike(t, "Peek", got, ok, want, true)
		got, ok = x.Next(40)
		alike(t, "Next", got, ok, want, true)
	}
	fourth, fifth := pk(a, 10, 4, 50), pk(c, 9, 5, 60)
	fed(t, x, fourth, fifth)
	got, ok := x.Worst(0)
	alike(t, "Worst", got, ok, fourth, true)
	l, e := x.Plan(pk(c, 1, 6, 70), 10)
	same(t, "Plan", l, []api.Packet{fourth}, e, api.OK)
	l, e = x.Leave(c, 70)
	same(t, "Leave", l, []api.Packet{fifth}, e, api.OK)
}

// 17.3: a WF2 leaf asks what its own fluid has begun, in its own time.
func TestBegunInTheLeafsTime(t *testing.T) {
	x := grown(t, leaf(api.WF2, 0, 10), leaf(api.EDF, 0, 10))
	is(t, "Join", x.Join(c, api.Params{Weight: 1, Node: 1}, 0), api.OK)
	fed(t, x, pk(a, 2, 1, 0), pk(a, 2, 2, 0), pk(c, 6, 3, 0), pk(b, 10, 4, 0))
	next(t, x, 100, 1)
	// V of the leaf's fluid is 1, and a's second packet has the start 2, however long it waits.
	next(t, x, 200, 3)
	next(t, x, 206, 2)
	next(t, x, 300, 4)
}

// 17.4: a turn, the quantum that it is worth, and who keeps what.
func TestTurns(t *testing.T) {
	x := grown(t, leaf(api.EDF, 0, 10), leaf(api.DRR, 0, 5), leaf(api.AGE, 0, 100))
	turnOf(t, x, 0, 0)
	fed(t, x, pk(a, 12, 1, 0), pk(a, 3, 2, 0), pk(b, 5, 3, 0), pk(c, 50, 4, 0))
	turnOf(t, x, 0, 0, 1, 2, 3)
	deficits(t, x, 0, 0, 0)
	next(t, x, 0, 3) // 10 is not enough for 12; 5 is for 5
	turnOf(t, x, 0, 0, 3, 1)
	deficits(t, x, 10, 0, 0)
	p, ok := x.Peek(0)
	tells(t, "Peek", p, ok, 4)
	turnOf(t, x, 0, 0, 3, 1)
	next(t, x, 0, 4)
	turnOf(t, x, 0, 0, 1)
	next(t, x, 0, 1)
	turnOf(t, x, 0, 1, 1)
	deficits(t, x, 8, 0, 0)
	fed(t, x, pk(b, 7, 5, 0))
	next(t, x, 0, 2) // in the same turn
	turnOf(t, x, 0, 0, 2)
	next(t, x, 0, 5) // two turns
	turnOf(t, x, 0, 0)
	deficits(t, x, 0, 0, 0)
	next(t, x, 0, 0)
}

// 17.4: as long as the deficit is not too long, and a byte more is.
func TestAsLongAsTheDeficit(t *testing.T) {
	x := grown(t, leaf(api.EDF, 0, 10), leaf(api.EDF, 0, 10))
	fed(t, x, pk(a, 10, 1, 0), pk(a, 1, 2, 0), pk(b, 11, 3, 0), pk(b, 9, 4, 0))
	next(t, x, 0, 1)
	turnOf(t, x, 0, 1, 1, 2)
	deficits(t, x, 0, 0)
	next(t, x, 0, 2) // each has had a turn in between that was too short
	deficits(t, x, 0, 10)
	turnOf(t, x, 0, 0, 2)
	next(t, x, 0, 3)
	deficits(t, x, 0, 9)
	next(t, x, 0, 4)
}

// 17.4: who has something again stands at the end, with nothing kept.
func TestIntoTheRing(t *testing.T) {
	for name, empty := range map[string]func(x *tree.Tree){
		"evicted": func(x *tree.Tree) { x.Evict(pk(a, 9, 1, 0)) },
		"left": func(x *tree.Tree) {
			x.Leave(a, 0)
			x.Join(a, api.Params{Node: 1}, 0)
		},
	} {
		t.Run(name, func(t *testing.T) {
			x := grown(t, leaf(api.EDF, 0, 4), leaf(api.EDF, 0, 4), leaf(api.EDF, 0, 4))
			fed(t, x, pk(a, 9, 1, 0), pk(b, 3, 2, 0), pk(b, 1, 3, 0), pk(c, 9, 4, 0))
			next(t, x, 0, 2)
			turnOf(t, x, 0, 2, 2, 3, 1)
			deficits(t, x, 4, 1, 0)
			empty(x)
			turnOf(t, x, 0, 2, 2, 3)
			deficits(t, x, 0, 1, 0)
			fed(t, x, pk(a, 1, 5, 0))
			turnOf(t, x, 0, 2, 2, 3, 1)
			deficits(t, x, 0, 1, 0)
			fed(t, x, pk(c, 1, 6, 0)) // it stands there already
			turnOf(t, x, 0, 2, 2, 3, 1)
			next(t, x, 0, 3)
			turnOf(t, x, 0, 0, 3, 1)
		})
	}
}

// 17.4: who has the turn and has nothing left has it no more, also if something comes at once.
func TestHolderGoesOut(t *testing.T) {
	x := grown(t, leaf(api.DRR, 0, 10), leaf(api.EDF, 0, 10))
	fed(t, x, pk(a, 3, 1, 0), pk(a, 4, 2, 0), pk(b, 10, 3, 0))
	next(t, x, 0, 1)
	turnOf(t, x, 0, 1, 1, 2)
	is(t, "Evict", x.Evict(pk(a, 4, 2, 0)), api.OK)
	turnOf(t, x, 0, 0, 2)
	deficits(t, x, 0, 0)
	fed(t, x, pk(a, 1, 4, 0))
	turnOf(t, x, 0, 0, 2, 1)
	next(t, x, 0, 3)
}

// 17.4: turns within turns; each node has a ring of its own.
func TestTurnsWithinTurns(t *testing.T) {
	// 1 TREE (10): 2 EDF (5), 3 EDF (20); 4 EDF (10).
	x := grown(t, inner(0, 10), leaf(api.EDF, 1, 5), leaf(api.EDF, 1, 20), leaf(api.EDF, 0, 10))
	fed(t, x, pk(a, 5, 1, 0), pk(a, 5, 2, 0), pk(b, 5, 3, 0), pk(b, 5, 4, 0), pk(c, 10, 5, 0), pk(c, 10, 6, 0))
	turnOf(t, x, 0, 0, 1, 4)
	turnOf(t, x, 1, 0, 2, 3)
	next(t, x, 0, 1)
	turnOf(t, x, 0, 1, 1, 4)
	turnOf(t, x, 1, 2, 2, 3)
	deficits(t, x, 5, 0, 0, 0)
	next(t, x, 0, 3) // a's turn is over
	turnOf(t, x, 0, 1, 1, 4)
	turnOf(t, x, 1, 3, 3, 2)
	deficits(t, x, 0, 0, 15, 0)
	next(t, x, 0, 5) // the node's turn is over, not that of its child
	turnOf(t, x, 0, 4, 4, 1)
	turnOf(t, x, 1, 3, 3, 2)
	deficits(t, x, 0, 0, 15, 0)
	next(t, x, 0, 4)
	turnOf(t, x, 0, 1, 1, 4)
	turnOf(t, x, 1, 0, 2)
	deficits(t, x, 5, 0, 0, 0)
	next(t, x, 0, 2)
	turnOf(t, x, 0, 0, 4)
	turnOf(t, x, 1, 0)
	next(t, x, 0, 6)
}

// 17.4: a child is asked anew, while it waits and while it has the turn.
func TestAskedAnew(t *testing.T) {
	x := grown(t, leaf(api.EDF, 0, 10), leaf(api.EDF, 0, 10))
	late := api.Handle{Slot: 8, Gen: 1}
	is(t, "Join", x.Join(late, api.Params{Span: 100, Node: 1}, 0), api.OK)
	fed(t, x, pk(late, 15, 1, 0), pk(b, 4, 2, 0), pk(b, 4, 3, 0))
	next(t, x, 0, 2)
	deficits(t, x, 10, 6)
	fed(t, x, pk(a, 6, 4, 0)) // it is ahead of the one that is too long
	next(t, x, 0, 3)
	next(t, x, 0, 4)
	turnOf(t, x, 0, 1, 1)
	deficits(t, x, 14, 0)
	fed(t, x, pk(a, 20, 5, 0), pk(b, 1, 6, 0)) // now its first one is too long for what it has
	next(t, x, 0, 6)
	deficits(t, x, 14, 0)
	turnOf(t, x, 0, 0, 1)
	is(t, "Evict", x.Evict(pk(a, 20, 5, 0)), api.OK)
	next(t, x, 0, 1)
	next(t, x, 0, 0)
}

// 17.4: however many turns it takes.
func TestManyTurns(t *testing.T) {
	x := grown(t, leaf(api.EDF, 0, 1), leaf(api.EDF, 0, 2), inner(0, 1), leaf(api.EDF, 3, 1))
	fed(t, x, pk(a, 65536, 1, 0), pk(b, 65536, 2, 0), pk(c, 65535, 3, 0))
	next(t, x, 0, 2)
	deficits(t, x, 32768, 0, 32767, 0)
	turnOf(t, x, 0, 0, 3, 1)
	next(t, x, 0, 3)
	deficits(t, x, 65535, 0, 0, 0)
	next(t, x, 0, 1)
	for _, quantum := range []int{1<<30 - 1, 1 << 30} {
		x := grown(t, leaf(api.EDF, 0, quantum), leaf(api.EDF, 0, quantum))
		fed(t, x, pk(a, 65536, 1, 0), pk(a, 1, 2, 0), pk(b, 65536, 3, 0))
		next(t, x, 0, 1)
		deficits(t, x, quantum-65536, 0)
		next(t, x, 0, 2)
		next(t, x, 0, 3)
	}
}

// 17.5: the child with the most bytes by its quantum, of equal ones the later one, from the root down.
func TestWorst(t *testing.T) {
	x := grown(t, leaf(api.DRR, 0, 10), leaf(api.AGE, 0, 5))
	fed(t, x, pk(a, 12, 1, 0), pk(a, 3, 2, 0), pk(b, 5, 3, 0), pk(b, 4, 4, 0))
	worsts(t, x, 4, 2, 1, 3)
	x = grown(t, leaf(api.EDF, 0, 3), leaf(api.EDF, 0, 6), leaf(api.EDF, 0, 3))
	fed(t, x, pk(a, 5, 1, 0), pk(b, 10, 2, 0), pk(c, 5, 3, 0))
	worsts(t, x, 3, 2, 1)
	x = grown(t, leaf(api.EDF, 0, 1<<30), leaf(api.EDF, 0, 1<<30-1))
	fed(t, x, pk(a, 65536, 1, 0), pk(b, 65535, 2, 0))
	worsts(t, x, 1, 2)
	// The node 1 has 12 / 4, the leaf 4 has 8 / 4; below the node 1 it is 6 / 1 against 6 / 2.
	x = grown(t, inner(0, 4), leaf(api.EDF, 1, 1), leaf(api.EDF, 1, 2), leaf(api.EDF, 0, 4))
	fed(t, x, pk(a, 6, 1, 0), pk(b, 6, 2, 0), pk(c, 4, 3, 0), pk(c, 4, 4, 0))
	worsts(t, x, 1, 4, 2, 3)
	for _, n := range []int{math.MinInt, -1, 4, math.MaxInt} {
		p, ok := x.Worst(n)
		tells(t, "Worst of none", p, ok, 0)
	}
}

// 17.5: so many bytes that they times a quantum have more than 64 bits.
func TestSharesBeyondAWord(t *testing.T) {
	x := grown(t, leaf(api.DRR, 0, 1), leaf(api.DRR, 0, 1<<30))
	const many = 1 << 18
	for seq := 1; seq <= many; seq++ {
		fed(t, x, pk(a, 65536, seq, 0))
	}
	fed(t, x, pk(b, 65536, many+1, 0))
	bytes, e := x.Bytes(1)
	reads(t, "Bytes", bytes, e, 1<<34, api.OK)
	p, ok := x.Worst(0)
	tells(t, "Worst", p, ok, many)
}

// 17.5: the new packet's bytes count with its leaf and all above it; at its leaf it is one of them, elsewhere it is not.
func TestPlan(t *testing.T) {
	x := grown(t, inner(0, 10), leaf(api.EDF, 1, 10), leaf(api.EDF, 1, 10), leaf(api.AGE, 0, 10))
	fed(t, x, pk(a, 10, 1, 0), pk(b, 11, 2, 0), pk(c, 15, 3, 0), pk(c, 5, 4, 0))
	plans := func(p api.Packet, need int, want ...int) {
		t.Helper()
		l, e := x.Plan(p, need)
		numbers(t, "Plan", l, e, want...)
	}
	refused := func(p api.Packet, need int) {
		t.Helper()
		l, e := x.Plan(p, need)
		refuses(t, "Plan", l, e, api.ErrRefused)
	}
	// The node 1 has 21, the leaf 4 has 20.
	for _, need := range []int{math.MinInt, -1, 0} {
		plans(pk(c, 1, 5, 0), need)
	}
	refused(pk(c, 1, 5, 0), 1)  // 21 and 21: the later one, in which it is the worst itself
	refused(pk(a, 2, 5, 0), 1)  // 23; below the node 1 it is 12 against 11
	plans(pk(a, 1, 5, 0), 1, 2) // 22; 11 against 11, and the later one's is the worst
	plans(pk(a, 1, 5, 0), 11, 2)
	plans(pk(a, 1, 5, 0), 12, 2, 4) // 11 against 20
	plans(pk(a, 1, 5, 0), 31, 2, 4, 3)
	refused(pk(a, 1, 5, 0), 32)
	refused(pk(a, 1, 5, 0), math.MaxInt)
	if x.Len() != 4 {
		t.Fatalf("Len %d", x.Len())
	}
}

// 17.5: at the new packet's own leaf the plan goes on behind what was found there, whatever was found elsewhere meanwhile.
func TestPlanGoesOn(t *testing.T) {
	old := api.Handle{Slot: 8, Gen: 1}
	x, _ := tree.New([]api.Node{root, {Kind: api.AGE, Quantum: 10, Age: 1}, leaf(api.EDF, 0, 10)})
	for h, p := range map[api.Handle]api.Params{a: {Node: 1}, old: {Class: 15, Node: 1}, b: {Node: 2}} {
		is(t, "Join", x.Join(h, p, 0), api.OK)
	}
	fed(t, x, pk(old, 6, 1, 0), pk(old, 6, 2, 0), pk(old, 6, 3, 0), pk(b, 7, 4, 0), pk(b, 7, 5, 0), pk(a, 1, 6, 0))
	comes := pk(a, 2, 7, 0)
	// 21 against 14; 15 against 14; 9 against 14; 9 against 7; 3 against 7; 3 against 0.
	for need, want := range map[int][]int{6: {3}, 12: {3, 2}, 13: {3, 2, 5}, 20: {3, 2, 5, 1}, 26: {3, 2, 5, 1, 4}, 32: {3, 2, 5, 1, 4}} {
		l, e := x.Plan(comes, need)
		numbers(t, "Plan", l, e, want...)
	}
	l, e := x.Plan(comes, 33)
	refuses(t, "Plan", l, e, api.ErrRefused)
}

// 17.6: of what is no node, no TREE node, or the root.
func TestOfNoNode(t *testing.T) {
	x := grown(t, leaf(api.EDF, 0, 10), inner(0, 10), leaf(api.DRR, 2, 10))
	fed(t, x, pk(a, 1, 1, 0), pk(a, 1, 2, 0), pk(b, 1, 3, 0), pk(b, 1, 4, 0))
	next(t, x, 0, 1)
	for _, node := range []int{math.MinInt, -1, 1, 3, 4, 32, math.MaxInt} {
		turnOf(t, x, node, 0)
	}
	turnOf(t, x, 0, 1, 1, 2)
	turnOf(t, x, 2, 0, 3)
	for _, node := range []int{math.MinInt, -1, 0, 4, 32, math.MaxInt} {
		got, e := x.Deficit(node)
		reads(t, "Deficit", got, e, 0, api.ErrArg)
	}
	deficits(t, x, 9, 0, 0)
}

// 13.1: each tick counts, also one that is handed to a call that is refused; an earlier one counts as the time.
func TestTheTimeIsTheGreatestTick(t *testing.T) {
	x := grown(t, leaf(api.EDF, 0, 1))
	stranger := pk(api.Handle{Slot: 5, Gen: 5}, 1, 1, 0)
	now := 0
	for i, call := range []func(int){
		func(t int) { x.Join(a, api.Params{Node: 1}, t) },
		func(t int) { x.Join(b, api.Params{Node: 0}, t) },
		func(t int) { x.Leave(b, t) },
		func(t int) { x.Next(t) },
		func(t int) { x.Peek(t) },
		func(t int) { x.Weight(t) },
		func(t int) { x.Time(0, t) },
		func(t int) { stranger.Came = t; x.Admit(stranger) },
		func(t int) { stranger.Came = t; x.Plan(stranger, 1) },
		func(t int) { x.Admit(pk(a, 0, 1, t)) },
		func(t int) { x.Join(c, api.Params{Node: 1}, t) },
		func(t int) { x.Leave(c, t) },
		func(t int) { x.Admit(pk(a, 1, 1, t)); x.Evict(pk(a, 1, 1, t)) },
	} {
		now += 10 + i
		call(now)
		at(t, x, 1, math.MinInt, now)
		call(now / 2)
		at(t, x, 1, 0, now)
	}
}

// 17.4: what is told is the packet as it came, whole.
func TestTellsTheWholePacket(t *testing.T) {
	for _, kind := range leafKinds {
		x := grown(t, leaf(kind, 0, 3))
		p := api.Packet{Flow: a, ID: -77, Size: 65536, Seq: 9, Came: 5}
		fed(t, x, p)
		got, ok := x.Worst(0)
		alike(t, "Worst", got, ok, p, true)
		got, ok = x.Peek(8)
		alike(t, "Peek", got, ok, p, true)
		got, ok = x.Next(8)
		alike(t, "Next", got, ok, p, true)
	}
}
