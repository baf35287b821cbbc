package tree_test

import (
	"maps"
	"math"
	"math/big"
	"slices"
	"testing"

	"millrace/api"
	"millrace/disc"
	"millrace/drr"
	"millrace/due"
	"millrace/tree"
	"millrace/wfq"
)

// noise gives the same words in every run.
type noise uint64

func (n *noise) word() uint64 {
	*n += 0x9e3779b97f4a7c15
	z := uint64(*n)
	z = (z ^ z>>30) * 0xbf58476d1ce4e5b9
	z = (z ^ z>>27) * 0x94d049bb133111eb
	return z ^ z>>31
}

func (n *noise) below(bound int) int { return int(n.word() % uint64(bound)) }

// one is one of a list, which must not be empty.
func one[T any](n *noise, l []T) T { return l[n.below(len(l))] }

// place is where something lies: a packet that is queued, and its leaf.
type place struct {
	packet api.Packet
	leaf   int
}

// state is all of a model but its leaves' disciplines.
type state struct {
	rings    map[int][]int
	turn     map[int]int // the child that has it; 0 is nobody, since the root is no child
	deficits map[int]int
	queued   []place // by the packets' numbers
	flows    map[api.Handle]int
	times    map[int]int // the leaves'
	time     int
	sender   int // the leaf whose packet was told last; 0 is none
	until    int // the tick to which that one is on the link
	seq      int
	came     int
}

func (s state) clone() state {
	s.rings, s.turn, s.deficits = maps.Clone(s.rings), maps.Clone(s.turn), maps.Clone(s.deficits)
	s.queued, s.flows, s.times = slices.Clone(s.queued), maps.Clone(s.flows), maps.Clone(s.times)
	return s
}

// model is a tree as the chapter words it: turns are taken one by one, time goes tick by tick, and bytes are counted anew for each question. Its leaves are the disciplines of the layers below.
type model struct {
	state
	nodes  []api.Node
	leaves map[int]disc.Discipline
}

func modelOf(nodes []api.Node) *model {
	m := &model{nodes: nodes, leaves: map[int]disc.Discipline{}, state: state{
		rings: map[int][]int{}, turn: map[int]int{}, deficits: map[int]int{}, flows: map[api.Handle]int{}, times: map[int]int{},
	}}
	for i, n := range nodes {
		switch n.Kind {
		case api.WFQ:
			m.leaves[i] = wfq.New()
		case api.WF2:
			m.leaves[i] = wfq.New2()
		case api.DRR:
			m.leaves[i] = drr.New()
		case api.EDF:
			m.leaves[i] = due.NewEDF()
		case api.AGE:
			m.leaves[i] = due.NewAge(n.Age)
		}
	}
	return m
}

// below is whether a node is another one, or below it.
func (m *model) below(node, top int) bool {
	for node != top && node != 0 {
		node = m.nodes[node].Parent
	}
	return node == top
}

// of are the queued packets below a node.
func (m *model) of(node int) []api.Packet {
	var l []api.Packet
	for _, x := range m.queued {
		if m.below(x.leaf, node) {
			l = append(l, x.packet)
		}
	}
	return l
}

func sizes(l []api.Packet) int {
	sum := 0
	for _, p := range l {
		sum += p.Size
	}
	return sum
}

// advance lets the ticks go by, one by one.
func (m *model) advance(t int) {
	for ; m.time < t; m.time++ {
		for leaf := range m.leaves {
			if len(m.of(leaf)) == 0 || m.sender == leaf && m.time < m.until {
				m.times[leaf]++
			}
		}
	}
}

func (m *model) tick(leaf int) int {
	if k := m.nodes[leaf].Kind; k == api.WFQ || k == api.WF2 {
		return m.times[leaf]
	}
	return m.time
}

func (m *model) inside(leaf int, p api.Packet) api.Packet {
	if k := m.nodes[leaf].Kind; k == api.WFQ || k == api.WF2 {
		p.Came = m.times[leaf]
	}
	return p
}

// as is a packet as it came.
func (m *model) as(p api.Packet) api.Packet {
	for _, x := range m.queued {
		if x.packet.Seq == p.Seq {
			return x.packet
		}
	}
	return api.Packet{}
}

func (m *model) join(h api.Handle, p api.Params, t int) api.Errno {
	m.advance(t)
	for open := range m.flows {
		if open.Slot == h.Slot {
			return api.ErrHandle
		}
	}
	if m.leaves[p.Node] == nil {
		return api.ErrArg
	}
	m.flows[h] = p.Node
	return m.leaves[p.Node].Join(h, p, m.tick(p.Node))
}

func (m *model) leave(h api.Handle, t int) ([]api.Packet, api.Errno) {
	m.advance(t)
	leaf, ok := m.flows[h]
	if !ok {
		return nil, api.ErrHandle
	}
	delete(m.flows, h)
	m.leaves[leaf].Leave(h, m.tick(leaf))
	left := slices.DeleteFunc(m.of(leaf), func(p api.Packet) bool { return p.Flow != h })
	for _, p := range left {
		m.drop(p)
	}
	return left, api.OK
}

// drop takes a packet out, and all who have nothing left out of their rings.
func (m *model) drop(p api.Packet) {
	m.queued = slices.DeleteFunc(slices.Clone(m.queued), func(x place) bool { return x.packet.Seq == p.Seq })
	for parent, l := range m.rings {
		for _, child := range l {
			if len(m.of(child)) > 0 {
				continue
			}
			m.rings[parent] = slices.DeleteFunc(slices.Clone(m.rings[parent]), func(x int) bool { return x == child })
			m.deficits[child] = 0
			if m.turn[parent] == child {
				m.turn[parent] = 0
			}
		}
	}
}

func (m *model) check(p api.Packet) api.Errno {
	m.advance(p.Came)
	if _, ok := m.flows[p.Flow]; !ok {
		return api.ErrHandle
	}
	if p.Size < 1 || p.Size > 65536 || p.Seq < 1 || p.Seq <= m.seq || p.Came < 0 || p.Came < m.came || p.Came > 1<<62 {
		return api.ErrArg
	}
	return api.OK
}

func (m *model) admit(p api.Packet) api.Errno {
	if e := m.check(p); e != api.OK {
		return e
	}
	leaf := m.flows[p.Flow]
	if e := m.leaves[leaf].Admit(m.inside(leaf, p)); e != api.OK {
		return e
	}
	for node := leaf; node != 0; node = m.nodes[node].Parent {
		if len(m.of(node)) == 0 {
			parent := m.nodes[node].Parent
			m.rings[parent] = append(slices.Clone(m.rings[parent]), node)
		}
	}
	m.queued = append(m.queued, place{p, leaf})
	m.seq, m.came = p.Seq, p.Came
	return api.OK
}

func (m *model) evict(p api.Packet) api.Errno {
	leaf, ok := m.flows[p.Flow]
	if !ok || m.leaves[leaf].Evict(p) != api.OK {
		return api.ErrItem
	}
	m.drop(p)
	return api.OK
}

// first is what a node would tell now.
func (m *model) first(node int) api.Packet {
	dry := &model{m.state.clone(), m.nodes, m.leaves}
	p, leaf := dry.choose(node)
	told, _ := m.leaves[leaf].Peek(m.tick(leaf))
	if told.Seq != p.Seq {
		panic("the model is at odds with itself")
	}
	return p
}

// choose takes the turns from a node down, one by one, and tells the leaf's next packet and the leaf.
func (m *model) choose(node int) (api.Packet, int) {
	if d := m.leaves[node]; d != nil {
		p, _ := d.Peek(m.tick(node))
		return m.as(p), node
	}
	for {
		if m.turn[node] == 0 {
			head := m.rings[node][0]
			m.turn[node] = head
			m.deficits[head] += m.nodes[head].Quantum
		}
		child := m.turn[node]
		if p := m.first(child); p.Size <= m.deficits[child] {
			_, leaf := m.choose(child)
			m.deficits[child] -= p.Size
			return p, leaf
		}
		m.rings[node] = append(slices.Clone(m.rings[node][1:]), child)
		m.turn[node] = 0
	}
}

func (m *model) next(t int) (api.Packet, bool) {
	m.advance(t)
	if len(m.queued) == 0 {
		return api.Packet{}, false
	}
	p, leaf := m.choose(0)
	m.leaves[leaf].Next(m.tick(leaf))
	m.drop(p)
	m.sender, m.until = leaf, m.time+p.Size
	return p, true
}

func (m *model) peek(t int) (api.Packet, bool) {
	m.advance(t)
	if len(m.queued) == 0 {
		return api.Packet{}, false
	}
	return m.first(0), true
}

// worstLeaf is where the worst is, of what is queued and not aside, and a packet that comes to a leaf, if its size is not 0.
func (m *model) worstLeaf(aside []api.Packet, leaf, size int) int {
	node := 0
	for m.leaves[node] == nil {
		worst := 0
		var most *big.Rat
		for child := 1; child < len(m.nodes); child++ {
			if m.nodes[child].Parent != node {
				continue
			}
			bytes := 0
			for _, p := range m.of(child) {
				if !slices.Contains(aside, p) {
					bytes += p.Size
				}
			}
			if m.below(leaf, child) {
				bytes += size
			}
			share := big.NewRat(int64(bytes), int64(m.nodes[child].Quantum))
			if bytes > 0 && (most == nil || share.Cmp(most) >= 0) {
				worst, most = child, share
			}
		}
		node = worst
	}
	return node
}

// asideOf is how many of these are a leaf's.
func (m *model) asideOf(aside []api.Packet, leaf int) int {
	n := 0
	for _, p := range m.of(leaf) {
		if slices.Contains(aside, p) {
			n++
		}
	}
	return n
}

// planOn is what the leaf's plan for its own packet has behind so many; false, if that is the packet itself.
func (m *model) planOn(leaf int, p api.Packet, behind int) (api.Packet, bool) {
	for need := 1; ; need++ {
		l, e := m.leaves[leaf].Plan(m.inside(leaf, p), need)
		if e != api.OK {
			return api.Packet{}, false
		}
		if len(l) > behind {
			return m.as(l[behind]), true
		}
	}
}

func (m *model) plan(p api.Packet, need int) ([]api.Packet, api.Errno) {
	if e := m.check(p); e != api.OK {
		return nil, e
	}
	own := m.flows[p.Flow]
	if _, e := m.leaves[own].Plan(m.inside(own, p), 0); e != api.OK {
		return nil, e
	}
	var aside []api.Packet
	for need > 0 {
		leaf := m.worstLeaf(aside, own, p.Size)
		found, ok := m.leaves[leaf].Worst(m.asideOf(aside, leaf))
		found = m.as(found)
		if leaf == own {
			found, ok = m.planOn(own, p, m.asideOf(aside, own))
		}
		if !ok {
			return nil, api.ErrRefused
		}
		aside = append(aside, found)
		need -= found.Size
	}
	return aside, api.OK
}

// order is all that is queued, the worst first.
func (m *model) order() []api.Packet {
	var aside []api.Packet
	for range m.queued {
		leaf := m.worstLeaf(aside, 0, 0)
		p, _ := m.leaves[leaf].Worst(m.asideOf(aside, leaf))
		aside = append(aside, m.as(p))
	}
	return aside
}

func (m *model) weight(t int) int {
	m.advance(t)
	sum := 0
	for leaf, d := range m.leaves {
		sum += d.Weight(m.tick(leaf))
	}
	return sum
}

// handles are those that the models know.
var handles = []api.Handle{
	{Slot: 0, Gen: 1}, {Slot: 1, Gen: 1}, {Slot: 2, Gen: 1}, {Slot: 3, Gen: 1}, {Slot: 4, Gen: 1}, {Slot: 5, Gen: 1},
	{Slot: 0, Gen: 2}, {Slot: 2, Gen: 2}, {Slot: -5, Gen: -1}, {Slot: math.MaxInt},
}

// pair is a tree, also behind the interface, and its model, which are asked the same.
type pair struct {
	t *testing.T
	n *noise
	x *tree.Tree
	d disc.Discipline
	m *model
}

func pairOf(t *testing.T, n *noise, nodes []api.Node) pair {
	t.Helper()
	x, e := tree.New(nodes)
	is(t, "New", e, api.OK)
	return pair{t, n, x, x, modelOf(nodes)}
}

// tick is often a later one than the time, and never one far away, since the model goes tick by tick.
func (x pair) tick() int {
	switch x.n.below(8) {
	case 0:
		return one(x.n, []int{math.MinInt, -1, 0, x.m.time - 1, x.m.time / 2})
	case 1, 2, 3:
		return x.m.time + x.n.below(12)
	}
	return x.m.time
}

// params are often good ones.
func (x pair) params() api.Params {
	node := x.n.below(len(x.m.nodes))
	if x.n.below(9) == 0 {
		node = one(x.n, []int{math.MinInt, -1, 0, len(x.m.nodes), math.MaxInt})
	}
	return api.Params{Node: node, Weight: 1 + x.n.below(5), Quantum: 1 + x.n.below(15), Class: x.n.below(4), Span: x.n.below(30)}
}

// packet is often one that may come, and else has one thing wrong.
func (x pair) packet() api.Packet {
	n, m := x.n, x.m
	p := api.Packet{Flow: one(n, handles), ID: n.below(9), Size: 1 + n.below(20), Seq: m.seq + 1 + n.below(2), Came: m.time + n.below(2)*n.below(3)}
	if open := slices.DeleteFunc(slices.Clone(handles), func(h api.Handle) bool { return m.flows[h] == 0 }); len(open) > 0 {
		p.Flow = one(n, open)
	}
	switch n.below(40) {
	case 0:
		p.Size = one(n, []int{0, -1, 65537, math.MaxInt, math.MinInt})
	case 1:
		p.Seq = m.seq - one(n, []int{0, 1, m.seq, m.seq + 1})
	case 2:
		p.Came = one(n, []int{m.came - 1, -1, math.MinInt})
	case 3:
		p.Flow = one(n, handles)
	case 4, 5:
		p.Came = m.came + n.below(m.time-m.came+1) // often ahead of the time
	case 6:
		p.Size = 60
	}
	return p
}

// queued is often one that is queued, and often its flow's last one.
func (x pair) queued() api.Packet {
	if len(x.m.queued) == 0 || x.n.below(15) == 0 {
		return x.packet()
	}
	p := one(x.n, x.m.queued).packet
	if x.n.below(4) > 0 {
		for _, q := range x.m.queued {
			if q.packet.Flow == p.Flow {
				p = q.packet
			}
		}
	}
	if x.n.below(12) == 0 {
		p.Flow = one(x.n, handles)
	}
	return p
}

func same(t *testing.T, what string, got, want []api.Packet, e, wantE api.Errno) {
	t.Helper()
	if !slices.Equal(got, want) || e != wantE {
		t.Fatalf("%s: %v %d, want %v %d", what, got, e, want, wantE)
	}
}

func alike(t *testing.T, what string, got api.Packet, ok bool, want api.Packet, wantOk bool) {
	t.Helper()
	if got != want || ok != wantOk {
		t.Fatalf("%s: %v %v, want %v %v", what, got, ok, want, wantOk)
	}
}

// turns holds what is told of the nodes against the model.
func (x pair) turns() {
	x.t.Helper()
	for node := -2; node < len(x.m.nodes)+2; node++ {
		if ring := x.x.Ring(node); !slices.Equal(ring, x.m.rings[node]) {
			x.t.Fatalf("Ring of %d: %v, want %v", node, ring, x.m.rings[node])
		}
		child, ok := x.x.Turn(node)
		if child != x.m.turn[node] || ok != (child > 0) {
			x.t.Fatalf("Turn of %d: %d %v, want %d", node, child, ok, x.m.turn[node])
		}
		there := 0 <= node && node < len(x.m.nodes)
		want := api.ErrArg
		if there && node > 0 {
			want = api.OK
		}
		deficit, e := x.x.Deficit(node)
		reads(x.t, "Deficit", deficit, e, x.m.deficits[node], want)
		want, bytes := api.ErrArg, 0
		if there {
			want, bytes = api.OK, sizes(x.m.of(node))
		}
		got, e := x.x.Bytes(node)
		reads(x.t, "Bytes", got, e, bytes, want)
	}
}

// looks holds all that can be told without a change against the model.
func (x pair) looks() {
	x.t.Helper()
	if x.d.Len() != len(x.m.queued) {
		x.t.Fatalf("Len %d, want %d", x.d.Len(), len(x.m.queued))
	}
	x.turns()
	order := x.m.order()
	for k := -2; k < len(order)+2; k++ {
		want := api.Packet{}
		if 0 <= k && k < len(order) {
			want = order[k]
		}
		got, ok := x.d.Worst(k)
		alike(x.t, "Worst", got, ok, want, want.Seq > 0)
	}
	t := x.tick()
	got, ok := x.d.Peek(t)
	want, wantOk := x.m.peek(t)
	alike(x.t, "Peek", got, ok, want, wantOk)
	t = x.tick()
	if w, want := x.d.Weight(t), x.m.weight(t); w != want {
		x.t.Fatalf("Weight(%d): %d, want %d", t, w, want)
	}
	for leaf := -1; leaf <= len(x.m.nodes); leaf++ {
		t = x.tick()
		got, e := x.x.Time(leaf, t)
		x.m.advance(t)
		want := api.ErrArg
		if x.m.leaves[leaf] != nil {
			want = api.OK
		}
		reads(x.t, "Time", got, e, x.m.times[leaf], want)
	}
}

// step makes a random call, of which those that let something come have so many parts of 20.
func (x pair) step(comes int) {
	x.t.Helper()
	switch call := x.n.below(20); {
	case call == 0:
		h, p, t := one(x.n, handles), x.params(), x.tick()
		is(x.t, "Join", x.d.Join(h, p, t), x.m.join(h, p, t))
	case call == 1 && x.n.below(3) == 0:
		h, t := one(x.n, handles), x.tick()
		got, e := x.d.Leave(h, t)
		want, wantE := x.m.leave(h, t)
		same(x.t, "Leave", got, want, e, wantE)
	case call <= comes:
		p, need := x.packet(), one(x.n, []int{math.MinInt, -1, 0, 1, 2, 10, 20, 35, 60, 200, math.MaxInt})
		got, e := x.d.Plan(p, need)
		want, wantE := x.m.plan(p, need)
		same(x.t, "Plan", got, want, e, wantE)
		if x.n.below(4) > 0 {
			is(x.t, "Admit", x.d.Admit(p), x.m.admit(p))
		}
	case call < 12+comes/3:
		p := x.queued()
		is(x.t, "Evict", x.d.Evict(p), x.m.evict(p))
	default:
		t := x.tick()
		got, ok := x.d.Next(t)
		want, wantOk := x.m.next(t)
		alike(x.t, "Next", got, ok, want, wantOk)
	}
}

// leafKinds are those that a leaf may have.
var leafKinds = []int{api.WFQ, api.DRR, api.EDF, api.AGE, api.WF2}

// anyTree is a random one that may be, of at most so many nodes.
func anyTree(n *noise, most int) []api.Node {
	nodes := []api.Node{{Kind: api.TREE}}
	trees := []int{0}
	for len(nodes) < most {
		x := api.Node{Kind: one(n, leafKinds), Parent: one(n, trees), Quantum: 1 + n.below(one(n, []int{3, 12, 40}))}
		if n.below(3) == 0 && len(nodes) < most-1 {
			x.Kind = api.TREE
			trees = append(trees, len(nodes))
		}
		if x.Kind == api.AGE {
			x.Age = n.below(20)
		}
		nodes = append(nodes, x)
	}
	// A node that has no child has to be a leaf.
	for i := range nodes {
		if nodes[i].Kind == api.TREE && !slices.ContainsFunc(nodes[1:], func(x api.Node) bool { return x.Parent == i }) {
			nodes[i].Kind = api.DRR
		}
	}
	return nodes
}

// leavesOf are the numbers of the leaves.
func leavesOf(nodes []api.Node) []int {
	var l []int
	for i, x := range nodes {
		if x.Kind != api.TREE {
			l = append(l, i)
		}
	}
	return l
}

// 17.1 to 17.6, and what chapter 13 says of every discipline: long random uses of random trees, held against the model at each step. They fill and empty by turns.
func TestAgainstTheModel(t *testing.T) {
	n := noise(1701)
	for range 36 {
		nodes := anyTree(&n, 2+n.below(7))
		x := pairOf(t, &n, nodes)
		for _, h := range handles[:6] {
			p := x.params()
			p.Node = one(&n, leavesOf(nodes))
			is(t, "Join", x.d.Join(h, p, 0), x.m.join(h, p, 0))
		}
		for i := range 200 {
			x.step(8 + i/40%2*8)
			x.looks()
		}
	}
}
