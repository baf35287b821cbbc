package conf_test

import (
	"math"
	"math/big"
	"slices"
	"sync"
	"testing"

	"millrace/api"
	"millrace/conf"
)

// edgeSetups are set-ups that may be, with the least and the greatest of each field.
func edgeSetups() []api.Conf {
	var l []api.Conf
	for _, kind := range kinds {
		for _, c := range []api.Conf{
			{Kind: kind, Room: 1, Most: 1, Cap: 1, Flows: 1},
			{Kind: kind, Room: 1 << 30, Most: 65536, Cap: 4096, Flows: 256},
			{Kind: kind, Room: 1 << 30, Most: 1, Cap: 4096, Flows: 1},
		} {
			if kind == api.AGE {
				l = append(l, c)
				c.Age = 1 << 40
			}
			if kind == api.TREE {
				c.Nodes = chain(32)
				l = append(l, c)
				c.Nodes = longest()
			}
			l = append(l, c)
		}
	}
	return append(l, flat(), good(api.TREE))
}

// longest is a tree with a line as long as one may be.
func longest() []api.Node {
	l := []api.Node{{Kind: api.TREE}}
	for i := range 11 {
		l = append(l, api.Node{Kind: api.TREE, Parent: i, Quantum: 1 << 30})
	}
	for range 20 {
		l = append(l, api.Node{Kind: api.AGE, Parent: 11, Quantum: 1 << 30, Age: 1 << 40})
	}
	return l
}

// 9.5

// setupBack asks that a set-up comes back as it was.
func setupBack(t *testing.T, c api.Conf) {
	t.Helper()
	s, e := conf.Print(c)
	answers(t, c, e, api.OK)
	if want := wantPrint(c); s != want {
		t.Fatalf("Print(%+v): %q", c, s)
	}
	reads(t, s, c, api.OK)
}

// flowBack asks that a flow comes back as it was, but a Rate of -0 as +0.
func flowBack(t *testing.T, c api.Conf, p api.Params) {
	t.Helper()
	s, e := conf.PrintFlow(c, p)
	answers(t, p, e, api.OK)
	if want := wantPrintFlow(p); s != want {
		t.Fatalf("PrintFlow(%+v): %q", p, s)
	}
	if p.Rate == 0 {
		p.Rate = 0
	}
	readsFlow(t, c, s, p, api.OK)
}

func TestThereAndBack(t *testing.T) {
	n := noise(95)
	for _, c := range edgeSetups() {
		setupBack(t, c)
		for range 50 {
			flowBack(t, c, n.flow(c))
		}
	}
	for range 20000 {
		c := n.setup()
		setupBack(t, c)
		flowBack(t, c, n.flow(c))
	}
}

// 9.5: numbers of every length, the longest fractions with them.
func TestRatesThereAndBack(t *testing.T) {
	c := good(api.WFQ)
	p := plain(api.WFQ)
	n := noise(951)
	for exponent := range api.Bits(1<<20)>>52 + 1 {
		for _, low := range []uint64{0, 1, 1<<52 - 1, n.word() >> 12} {
			if p.Rate = api.Float(exponent<<52 | low); p.Rate <= 1<<20 {
				flowBack(t, c, p)
			}
		}
	}
	p.Rate = math.Copysign(0, -1)
	flowBack(t, c, p)
	p.Rate = 1 << 20
	flowBack(t, c, p)
}

// 9.5: what is read, printed and read again is the same, however it was written.
func TestReadTwice(t *testing.T) {
	n := noise(952)
	read := 0
	for range 20000 {
		if c, e := conf.Parse(n.spoilt(wantPrint(n.setup()))); e == api.OK {
			setupBack(t, c)
			read++
		}
		c := n.setup()
		if p, e := conf.ParseFlow(c, n.spoilt(wantPrintFlow(n.flow(c)))); e == api.OK {
			flowBack(t, c, p)
			read++
		}
	}
	if read < 10000 {
		t.Fatalf("only %d were read", read)
	}
}

// 9.6

// greatest is the greatest number from 0 on that is taken; all below it are taken too.
func greatest(taken func(n int) bool) int {
	least, above := 0, math.MaxInt
	for above-least > 1 {
		if half := least + (above-least)/2; taken(half) {
			least = half
		} else {
			above = half
		}
	}
	return least
}

// 9.6: at MaxTime the greatest deadline and the greatest key that can be taken are below 2^63.
func TestNoIntIsLeft(t *testing.T) {
	span := greatest(func(n int) bool {
		p := plain(api.EDF)
		p.Span = n
		return conf.CheckFlow(good(api.EDF), p) == api.OK
	})
	class := greatest(func(n int) bool {
		p := plain(api.AGE)
		p.Class = n
		return conf.CheckFlow(good(api.AGE), p) == api.OK
	})
	age := greatest(func(n int) bool {
		c := good(api.AGE)
		c.Age = n
		return conf.CheckFlow(c, plain(api.AGE)) == api.OK
	})
	leafAge := greatest(func(n int) bool {
		c := good(api.TREE)
		c.Nodes[1].Age = n
		p := plain(api.AGE)
		p.Node = 1
		return conf.CheckFlow(c, p) == api.OK
	})
	if span != 1<<40 || class != 15 || age != 1<<40 || leafAge != 1<<40 {
		t.Fatalf("the greatest are %d %d %d %d", span, class, age, leafAge)
	}
	end := new(big.Int).Lsh(big.NewInt(1), 63)
	deadline := new(big.Int).Add(big.NewInt(api.MaxTime), big.NewInt(int64(span)))
	key := new(big.Int).Mul(big.NewInt(int64(class)), big.NewInt(int64(max(age, leafAge))))
	key.Add(key, big.NewInt(api.MaxTime))
	if deadline.Cmp(end) >= 0 || key.Cmp(end) >= 0 {
		t.Fatalf("beyond an int: %v %v", deadline, key)
	}
}

// 9.6: nothing below 0 is taken that is added to a tick.
func TestNothingBelowNought(t *testing.T) {
	for _, n := range []int{-1, -15, math.MinInt} {
		edf, age := plain(api.EDF), plain(api.AGE)
		edf.Span, age.Class = n, n
		answers(t, n, conf.CheckFlow(good(api.EDF), edf), api.ErrSpan)
		answers(t, n, conf.CheckFlow(good(api.AGE), age), api.ErrClass)
		c := good(api.AGE)
		c.Age = n
		answers(t, n, conf.CheckFlow(c, plain(api.AGE)), api.ErrClass)
	}
}

// 9.7

// anyInt is an int of any size, the ends of all ints among them.
func (n *noise) anyInt() int {
	switch n.below(4) {
	case 0:
		return n.below(9) - 2
	case 1:
		return pick(n, []int{math.MinInt, math.MinInt + 1, math.MaxInt - 1, math.MaxInt})
	}
	return int(n.word()) >> n.below(64)
}

// anyBytes is a text of any bytes.
func (n *noise) anyBytes() string {
	b := make([]byte, n.below(120))
	for i := range b {
		b[i] = byte(n.word())
		if n.below(3) == 0 {
			b[i] = pick(n, []byte(" 01-/.ekindnoderoomage"))
		}
	}
	return string(b)
}

// all is what every call answers of these arguments.
type all struct {
	check, nodes, flow, printE, parseE, printFlowE, parseFlowE api.Errno
	print, printFlow                                           string
	conf                                                       api.Conf
	params                                                     api.Params
}

func asked(c api.Conf, p api.Params, s string) (a all) {
	a.check = conf.Check(c)
	a.nodes = conf.CheckNodes(c.Nodes)
	a.flow = conf.CheckFlow(c, p)
	a.print, a.printE = conf.Print(c)
	a.conf, a.parseE = conf.Parse(s)
	a.printFlow, a.printFlowE = conf.PrintFlow(c, p)
	a.params, a.parseFlowE = conf.ParseFlow(c, s)
	return a
}

func equal(a, b all) bool {
	if !same(a.conf, b.conf) || !alike(a.params, b.params) {
		return false
	}
	return a.check == b.check && a.nodes == b.nodes && a.flow == b.flow && a.printE == b.printE && a.parseE == b.parseE &&
		a.printFlowE == b.printFlowE && a.parseFlowE == b.parseFlowE && a.print == b.print && a.printFlow == b.printFlow
}

// 9.7: whatever is given, no call panics, and the model's answer is given.
func TestAnythingAtAll(t *testing.T) {
	n := noise(97)
	for range 20000 {
		c := api.Conf{Kind: n.anyInt(), Room: n.anyInt(), Most: n.anyInt(), Cap: n.anyInt(), Flows: n.anyInt(), Age: n.anyInt()}
		if n.below(2) == 0 {
			c = n.setup()
			c.Kind = n.below(8)
		}
		for range n.below(40) {
			c.Nodes = append(c.Nodes, api.Node{Kind: n.anyInt(), Parent: n.anyInt(), Quantum: n.anyInt(), Age: n.anyInt()})
		}
		p := api.Params{Weight: n.anyInt(), Quantum: n.anyInt(), Class: n.anyInt(), Span: n.anyInt(), Burst: n.anyInt(), Rate: api.Float(n.word()), Per: n.anyInt(), Node: n.anyInt()}
		s := n.anyBytes()
		a := asked(c, p, s)
		answers(t, c, a.check, wantCheck(c))
		answers(t, c.Nodes, a.nodes, wantNodes(c.Nodes))
		answers(t, p, a.flow, wantFlow(c, p))
		byModel(t, s)
		flowByModel(t, good(api.WFQ), s)
	}
	answers(t, "many", conf.CheckNodes(make([]api.Node, 1<<20)), api.ErrArg)
}

// 9.7: an answer hangs on the arguments alone: the same again, behind other calls, and at one time with others.
func TestSameAgain(t *testing.T) {
	n := noise(971)
	type given struct {
		c api.Conf
		p api.Params
		s string
	}
	var l []given
	var told []all
	for range 300 {
		c := n.anySetup()
		g := given{c, n.anyFlow(c), n.spoilt(wantPrint(c))}
		l = append(l, g)
		told = append(told, asked(g.c, g.p, g.s))
	}
	var group sync.WaitGroup
	differ := make([]int, 8)
	for w := range differ {
		group.Add(1)
		go func() {
			defer group.Done()
			for i := range l {
				if g := l[(i*7+w)%len(l)]; !equal(asked(g.c, g.p, g.s), told[(i*7+w)%len(l)]) {
					differ[w]++
				}
			}
		}()
	}
	group.Wait()
	if slices.Max(differ) > 0 {
		t.Fatalf("%v answers were others", differ)
	}
}

// 9.7: nodes that are told are new memory, whole room.
func TestNodesToldAreNew(t *testing.T) {
	want := good(api.TREE)
	a, _ := conf.Parse(treeLine)
	b, _ := conf.Parse(treeLine)
	for _, c := range []api.Conf{a, b} {
		room := c.Nodes[:cap(c.Nodes)]
		for i := range room {
			room[i] = api.Node{Kind: -9, Parent: -9, Quantum: -9, Age: -9}
		}
		reads(t, treeLine, want, api.OK)
	}
	a, _ = conf.Parse(treeLine)
	b, _ = conf.Parse(treeLine)
	a.Nodes = append(a.Nodes, api.Node{Kind: 1})
	a.Nodes[0].Kind = 99
	if !same(b, want) {
		t.Fatalf("another answer changed: %+v", b)
	}
}

// 9.7: nodes that are handed in are not changed, nor the room behind them, and not kept.
func TestNodesHandedIn(t *testing.T) {
	room := append(example(), make([]api.Node, 9)...)
	for i := 4; i < len(room); i++ {
		room[i] = api.Node{Kind: -7, Parent: i, Quantum: -7, Age: -7}
	}
	before := slices.Clone(room)
	c := good(api.TREE)
	c.Nodes = room[:4]
	p := api.Params{Weight: 1, Quantum: 4, Burst: 1, Per: 1, Node: 3}
	told := asked(c, p, treeLine)
	line, e := conf.ParseFlow(c, told.printFlow)
	if e != api.OK || line != p || !slices.Equal(room, before) {
		t.Fatalf("%v %v; %v, handed in as %v", line, e, room, before)
	}
	for i := range room {
		room[i] = api.Node{}
	}
	if told.print != treeLine || !same(told.conf, good(api.TREE)) {
		t.Fatalf("an answer changed: %+v", told)
	}
	answers(t, "the same again", conf.Check(good(api.TREE)), api.OK)
	answers(t, "noughts", conf.Check(c), api.ErrKind)
}

// 9.8

// walked asks of a tree that every node is reached once from the root, within 31 steps, and that each way ends at a leaf.
func walked(t *testing.T, l []api.Node) {
	t.Helper()
	times := make([]int, len(l))
	ends := 0
	var down func(n, steps int)
	down = func(n, steps int) {
		if times[n]++; times[n] > 1 || steps > 31 {
			t.Fatalf("%v: node %d is reached %d times, by %d steps", l, n, times[n], steps)
		}
		if l[n].Kind != api.TREE {
			ends++
			return
		}
		children := 0
		for i, x := range l {
			if i > 0 && x.Parent == n {
				down(i, steps+1)
				children++
			}
		}
		if children == 0 {
			t.Fatalf("%v: the way to node %d ends at no leaf", l, n)
		}
	}
	down(0, 0)
	if slices.Min(times) != 1 || ends == 0 {
		t.Fatalf("%v: reached %v, %d leaves", l, times, ends)
	}
}

// 9.8: all trees of up to five nodes that are taken, whatever their kinds and parents.
func TestSmallTreesAreWalked(t *testing.T) {
	var joins []api.Node
	for _, kind := range []int{api.EDF, api.TREE} {
		for parent := -1; parent <= 4; parent++ {
			joins = append(joins, api.Node{Kind: kind, Parent: parent, Quantum: 1})
		}
	}
	taken := 0
	var grow func(l []api.Node)
	grow = func(l []api.Node) {
		if conf.CheckNodes(l) == api.OK {
			taken++
			walked(t, l)
		}
		if len(l) == 5 {
			return
		}
		for _, x := range joins {
			grow(append(slices.Clone(l), x))
		}
	}
	grow([]api.Node{{Kind: api.TREE}})
	if taken < 20 {
		t.Fatalf("only %d trees were taken", taken)
	}
}

func TestAnyTreeIsWalked(t *testing.T) {
	n := noise(98)
	walked(t, chain(32))
	walked(t, longest())
	for range 5000 {
		l := n.tree(2 + n.below(31))
		if n.below(2) == 0 {
			l[n.below(len(l))].Parent = n.below(len(l))
		}
		if conf.CheckNodes(l) == api.OK {
			walked(t, l)
		}
	}
	for size := 2; size <= 33; size++ {
		want := api.OK
		if size > 32 {
			want = api.ErrArg
		}
		answers(t, size, conf.CheckNodes(chain(size)), want)
	}
}
