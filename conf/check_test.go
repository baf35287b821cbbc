package conf_test

import (
	"math"
	"testing"

	"millrace/api"
	"millrace/conf"
)

// good is a set-up of a kind; a tree's nodes are example's.
func good(kind int) api.Conf {
	c := api.Conf{Kind: kind, Room: 100, Most: 50, Cap: 10, Flows: 2}
	if kind == api.TREE {
		c.Nodes = example()
	}
	return c
}

// example is the chapter's tree: an AGE leaf, and a node with a DRR leaf.
func example() []api.Node {
	return []api.Node{{Kind: api.TREE}, {Kind: api.AGE, Quantum: 5, Age: 7}, {Kind: api.TREE, Quantum: 9}, {Kind: api.DRR, Parent: 2, Quantum: 1}}
}

// flat is a tree with a leaf of each kind, at the numbers 1 to 5, a node 6, and below that a leaf 7.
func flat() api.Conf {
	c := good(api.TREE)
	c.Nodes = []api.Node{{Kind: api.TREE}}
	for _, k := range leaves {
		c.Nodes = append(c.Nodes, api.Node{Kind: k, Quantum: 1})
	}
	c.Nodes = append(c.Nodes, api.Node{Kind: api.TREE, Quantum: 1}, api.Node{Kind: api.EDF, Parent: 6, Quantum: 1})
	return c
}

// around are a field's bounds, what lies next to them, and the ends of all ints.
func around(least, most int) []int {
	return []int{math.MinInt, -1, least - 1, least, least + 1, most - 1, most, most + 1, math.MaxInt}
}

// chain is a tree of so many nodes (2 at least), each below the one ahead of it.
func chain(size int) []api.Node {
	l := []api.Node{{Kind: api.TREE}}
	for i := range size - 1 {
		l = append(l, api.Node{Kind: api.TREE, Parent: i, Quantum: 1})
	}
	l[size-1].Kind = api.WFQ
	return l
}

// 9.1: each field's edges, every other field being good.
func TestCheckAtItsEdges(t *testing.T) {
	for _, kind := range append(kinds, math.MinInt, -1, 0, 7, math.MaxInt) {
		base := good(kind)
		check := func(turn func(c *api.Conf)) {
			c := base
			turn(&c)
			answers(t, c, conf.Check(c), wantCheck(c))
		}
		check(func(c *api.Conf) {})
		for _, n := range around(1, 65536) {
			check(func(c *api.Conf) { c.Most, c.Room = n, 1<<30 })
			check(func(c *api.Conf) { c.Most, c.Room = n, n })
		}
		for _, n := range around(50, 1<<30) {
			check(func(c *api.Conf) { c.Room = n })
		}
		for _, n := range around(1, 4096) {
			check(func(c *api.Conf) { c.Cap = n })
		}
		for _, n := range around(1, 256) {
			check(func(c *api.Conf) { c.Flows = n })
		}
		for _, n := range around(0, 1<<40) {
			check(func(c *api.Conf) { c.Age = n })
		}
		for _, l := range [][]api.Node{nil, {}, example()[:1], example(), chain(32), chain(33), make([]api.Node, 1), make([]api.Node, 33)} {
			check(func(c *api.Conf) { c.Nodes = l })
		}
	}
}

// 9.1: what the document's numbers are, said once more without the model.
func TestCheckExamples(t *testing.T) {
	for i, x := range []struct {
		turn func(c *api.Conf)
		e    api.Errno
	}{
		{func(c *api.Conf) {}, api.OK},
		{func(c *api.Conf) { c.Kind, c.Room = 0, 1 }, api.ErrKind},
		{func(c *api.Conf) { c.Kind = 7 }, api.ErrKind},
		{func(c *api.Conf) { c.Kind = -1 }, api.ErrKind},
		{func(c *api.Conf) { c.Room = 49 }, api.ErrRoom},
		{func(c *api.Conf) { c.Room = 50 }, api.OK},
		{func(c *api.Conf) { c.Room = 1 << 30 }, api.OK},
		{func(c *api.Conf) { c.Room = 1<<30 + 1 }, api.ErrRoom},
		{func(c *api.Conf) { c.Most = 0 }, api.ErrMost},
		{func(c *api.Conf) { c.Most, c.Room = 65536, 65536 }, api.OK},
		{func(c *api.Conf) { c.Most, c.Room = 65537, 65537 }, api.ErrMost},
		{func(c *api.Conf) { c.Cap = 0 }, api.ErrWeight},
		{func(c *api.Conf) { c.Cap = 4096 }, api.OK},
		{func(c *api.Conf) { c.Cap = 4097 }, api.ErrWeight},
		{func(c *api.Conf) { c.Flows = 0 }, api.ErrFlows},
		{func(c *api.Conf) { c.Flows = 256 }, api.OK},
		{func(c *api.Conf) { c.Flows = 257 }, api.ErrFlows},
		{func(c *api.Conf) { c.Age = 1 }, api.ErrClass},
		{func(c *api.Conf) { c.Age = -1 }, api.ErrClass},
		{func(c *api.Conf) { c.Kind, c.Age = api.AGE, -1 }, api.ErrClass},
		{func(c *api.Conf) { c.Kind, c.Age = api.AGE, 1<<40 }, api.OK},
		{func(c *api.Conf) { c.Kind, c.Age = api.AGE, 1<<40+1 }, api.ErrClass},
		{func(c *api.Conf) { c.Kind, c.Age, c.Nodes = api.TREE, 1, example() }, api.ErrClass},
		{func(c *api.Conf) { c.Nodes = example() }, api.ErrArg},
		{func(c *api.Conf) { c.Nodes = []api.Node{} }, api.OK},
		{func(c *api.Conf) { c.Kind = api.TREE }, api.ErrArg},
		{func(c *api.Conf) { c.Kind, c.Nodes = api.TREE, example() }, api.OK},
		{func(c *api.Conf) { c.Kind, c.Nodes = api.TREE, example()[:1] }, api.ErrArg},
		{func(c *api.Conf) { c.Kind, c.Nodes = api.TREE, make([]api.Node, 2) }, api.ErrKind},
	} {
		c := good(api.WFQ)
		x.turn(&c)
		answers(t, i, conf.Check(c), x.e)
	}
	for _, kind := range kinds {
		answers(t, kind, conf.Check(good(kind)), api.OK)
	}
}

// 9.1: the first error in the order of the chapter, of all joins of good and bad fields.
func TestCheckOrder(t *testing.T) {
	badTree := example()
	badTree[3].Quantum = 0
	for _, kind := range append(kinds, 0, 7) {
		for _, most := range []int{0, 1, 50, 65536, 65537} {
			for _, room := range []int{-1, most - 1, most, 1 << 30, 1<<30 + 1} {
				for _, weights := range []int{0, 1, 4096, 4097} {
					for _, flows := range []int{0, 1, 256, 257} {
						for _, age := range []int{-1, 0, 1, 1 << 40, 1<<40 + 1} {
							for _, nodes := range [][]api.Node{nil, example(), badTree} {
								c := api.Conf{Kind: kind, Room: room, Most: most, Cap: weights, Flows: flows, Age: age, Nodes: nodes}
								answers(t, c, conf.Check(c), wantCheck(c))
							}
						}
					}
				}
			}
		}
	}
}

// 9.1a: the chapter's examples, and each edge of a root, a node and a leaf.
func TestNodesExamples(t *testing.T) {
	for i, x := range []struct {
		turn func(l []api.Node) []api.Node
		e    api.Errno
	}{
		{func(l []api.Node) []api.Node { return l }, api.OK},
		{func(l []api.Node) []api.Node { return nil }, api.ErrArg},
		{func(l []api.Node) []api.Node { return l[:0] }, api.ErrArg},
		{func(l []api.Node) []api.Node { return l[:1] }, api.ErrArg},
		{func(l []api.Node) []api.Node { return l[:2] }, api.OK},
		{func(l []api.Node) []api.Node { return l[:3] }, api.ErrArg},
		{func(l []api.Node) []api.Node { return chain(32) }, api.OK},
		{func(l []api.Node) []api.Node { return chain(33) }, api.ErrArg},
		{func(l []api.Node) []api.Node { return make([]api.Node, 33) }, api.ErrArg},
		{func(l []api.Node) []api.Node { l[0].Kind = api.DRR; return l }, api.ErrKind},
		{func(l []api.Node) []api.Node { l[0].Kind = 0; return l }, api.ErrKind},
		{func(l []api.Node) []api.Node { l[0].Parent = 1; return l }, api.ErrArg},
		{func(l []api.Node) []api.Node { l[0].Parent = -1; return l }, api.ErrArg},
		{func(l []api.Node) []api.Node { l[0].Quantum = 1; return l }, api.ErrQuantum},
		{func(l []api.Node) []api.Node { l[0].Quantum = -1; return l }, api.ErrQuantum},
		{func(l []api.Node) []api.Node { l[0].Age = 1; return l }, api.ErrClass},
		{func(l []api.Node) []api.Node { l[3].Kind = 7; return l }, api.ErrKind},
		{func(l []api.Node) []api.Node { l[3].Kind = 0; return l }, api.ErrKind},
		{func(l []api.Node) []api.Node { l[3].Parent = -1; return l }, api.ErrArg},
		{func(l []api.Node) []api.Node { l[3].Parent = 0; return l }, api.ErrArg}, // node 2 has no child
		{func(l []api.Node) []api.Node { l[3].Parent = 1; return l }, api.ErrArg},
		{func(l []api.Node) []api.Node { l[3].Parent = 3; return l }, api.ErrArg},
		{func(l []api.Node) []api.Node { l[3].Parent = 4; return l }, api.ErrArg},
		{func(l []api.Node) []api.Node { l[3].Parent = math.MaxInt; return l }, api.ErrArg},
		{func(l []api.Node) []api.Node { l[3].Parent = math.MinInt; return l }, api.ErrArg},
		{func(l []api.Node) []api.Node { l[2].Parent, l[1].Kind, l[1].Age = 3, api.TREE, 0; return l }, api.ErrArg},
		{func(l []api.Node) []api.Node { l[3].Quantum = 0; return l }, api.ErrQuantum},
		{func(l []api.Node) []api.Node { l[3].Quantum = 1 << 30; return l }, api.OK},
		{func(l []api.Node) []api.Node { l[3].Quantum = 1<<30 + 1; return l }, api.ErrQuantum},
		{func(l []api.Node) []api.Node { l[2].Quantum = 0; return l }, api.ErrQuantum},
		{func(l []api.Node) []api.Node { l[3].Age = 1; return l }, api.ErrClass},
		{func(l []api.Node) []api.Node { l[2].Age = 1; return l }, api.ErrClass},
		{func(l []api.Node) []api.Node { l[1].Age = -1; return l }, api.ErrClass},
		{func(l []api.Node) []api.Node { l[1].Age = 1 << 40; return l }, api.OK},
		{func(l []api.Node) []api.Node { l[1].Age = 1<<40 + 1; return l }, api.ErrClass},
		// An earlier node's last error comes ahead of a later one's first, and every node's ahead of a childless one.
		{func(l []api.Node) []api.Node { l[1].Age, l[3].Kind = -1, 0; return l }, api.ErrClass},
		{func(l []api.Node) []api.Node { l[1].Quantum, l[0].Age = 0, 1; return l }, api.ErrClass},
		{func(l []api.Node) []api.Node { l[3].Kind, l[3].Age = api.TREE, 1; return l }, api.ErrClass},
		{func(l []api.Node) []api.Node { l[3].Kind = api.TREE; return l }, api.ErrArg},
	} {
		answers(t, i, conf.CheckNodes(x.turn(example())), x.e)
		answers(t, i, wantNodes(x.turn(example())), x.e)
	}
}

// nodeJoins are all joins of kinds, parents, quanta and ages that a small tree's node may be tried with.
func nodeJoins() []api.Node {
	var l []api.Node
	for _, kind := range []int{0, api.DRR, api.AGE, api.TREE, 7} {
		for parent := -1; parent <= 2; parent++ {
			for _, quantum := range []int{0, 1} {
				for _, age := range []int{0, 1} {
					l = append(l, api.Node{Kind: kind, Parent: parent, Quantum: quantum, Age: age})
				}
			}
		}
	}
	return l
}

// 9.1a: all trees of up to three nodes of these joins.
func TestNodesOfSmallTrees(t *testing.T) {
	joins := nodeJoins()
	taken := 0
	check := func(l ...api.Node) {
		e := conf.CheckNodes(l)
		answers(t, l, e, wantNodes(l))
		if e == api.OK {
			taken++
		}
	}
	for _, a := range joins {
		check(a)
		for _, b := range joins {
			check(a, b)
			for _, c := range joins {
				check(a, b, c)
			}
		}
	}
	// A leaf (of DRR or of AGE with two ages); two of them; or one below a node.
	if taken != 3+3*3+3 {
		t.Fatalf("%d trees are taken", taken)
	}
}

// 9.1a: any tree that may be, and the same with one thing turned.
func TestNodesOfAnyTree(t *testing.T) {
	n := noise(91)
	for range 20000 {
		l := n.tree(2 + n.below(31))
		answers(t, l, conf.CheckNodes(l), api.OK)
		x := &l[n.below(len(l))]
		switch n.below(4) {
		case 0:
			x.Kind = pick(&n, around(1, 6))
		case 1:
			x.Parent = pick(&n, around(0, len(l)-1))
		case 2:
			x.Quantum = pick(&n, around(1, 1<<30))
		case 3:
			x.Age = pick(&n, around(0, 1<<40))
		}
		answers(t, l, conf.CheckNodes(l), wantNodes(l))
	}
}

// plain is a flow that may be under kind.
func plain(kind int) api.Params {
	p := api.Params{Weight: 1, Burst: 100, Rate: 0.5, Per: 1}
	if kind == api.DRR {
		p.Quantum = 1
	}
	return p
}

// numbersOfAllSorts are rates: those that may be, and those that may not.
var numbersOfAllSorts = []float64{
	0, math.Copysign(0, -1), 0x1p-1074, 0x1p-1022, 0.1, 1, 1<<20 - 0x1p-33, 1 << 20,
	1<<20 + 0x1p-32, 1<<20 + 1, math.MaxFloat64, -0x1p-1074, -1, -math.MaxFloat64, math.Inf(1), math.Inf(-1),
	math.NaN(), math.Float64frombits(0x7ff0000000000001), math.Float64frombits(0xffffffffffffffff),
}

// 9.2: each field's edges under each kind, alone and as a leaf, every other field being good.
func TestFlowAtItsEdges(t *testing.T) {
	under := func(c api.Conf, base api.Params) {
		check := func(turn func(p *api.Params)) {
			p := base
			turn(&p)
			answers(t, p, conf.CheckFlow(c, p), wantFlow(c, p))
		}
		answers(t, base, conf.CheckFlow(c, base), api.OK)
		for _, n := range around(0, 7) {
			check(func(p *api.Params) { p.Node = n })
		}
		for _, n := range around(1, 10) {
			check(func(p *api.Params) { p.Weight = n })
		}
		for _, n := range around(1, 1<<30) {
			check(func(p *api.Params) { p.Quantum = n })
			check(func(p *api.Params) { p.Per = n })
		}
		for _, n := range around(0, 15) {
			check(func(p *api.Params) { p.Class = n })
		}
		for _, n := range around(0, 1<<40) {
			check(func(p *api.Params) { p.Span = n })
			check(func(p *api.Params) { p.Burst = n })
		}
		for _, a := range numbersOfAllSorts {
			check(func(p *api.Params) { p.Rate = a })
		}
	}
	for i, kind := range leaves {
		under(good(kind), plain(kind))
		p := plain(kind)
		p.Node = i + 1
		under(flat(), p)
	}
	deep := plain(api.EDF)
	deep.Node = 7
	under(flat(), deep)
}

// 9.2: the chapter's examples, and edges said without the model.
func TestFlowExamples(t *testing.T) {
	tree := good(api.TREE)
	for i, x := range []struct {
		c    api.Conf
		turn func(p *api.Params)
		e    api.Errno
	}{
		{good(api.WFQ), func(p *api.Params) {}, api.OK},
		{good(api.WF2), func(p *api.Params) {}, api.OK},
		{good(api.WFQ), func(p *api.Params) { p.Weight = 10 }, api.OK},
		{good(api.WFQ), func(p *api.Params) { p.Weight = 11 }, api.ErrWeight},
		{good(api.WFQ), func(p *api.Params) { p.Weight = 0 }, api.ErrWeight},
		{good(api.WFQ), func(p *api.Params) { p.Quantum = 1 }, api.ErrQuantum},
		{good(api.WFQ), func(p *api.Params) { p.Rate = math.NaN() }, api.ErrRate},
		{good(api.WFQ), func(p *api.Params) { p.Rate = math.Inf(1) }, api.ErrRate},
		{good(api.WFQ), func(p *api.Params) { p.Rate = -0x1p-1074 }, api.ErrRate},
		{good(api.WFQ), func(p *api.Params) { p.Rate = math.Copysign(0, -1) }, api.OK},
		{good(api.WFQ), func(p *api.Params) { p.Rate = 1 << 20 }, api.OK},
		{good(api.WFQ), func(p *api.Params) { p.Rate = 1<<20 + 0x1p-32 }, api.ErrRate},
		{good(api.WFQ), func(p *api.Params) { p.Per = 0 }, api.ErrRate},
		{good(api.WFQ), func(p *api.Params) { p.Per = 1 << 30 }, api.OK},
		{good(api.WFQ), func(p *api.Params) { p.Per = 1<<30 + 1 }, api.ErrRate},
		{good(api.WFQ), func(p *api.Params) { p.Node = 1 }, api.ErrArg},
		{good(api.WFQ), func(p *api.Params) { p.Node = -1 }, api.ErrArg},
		{good(api.WFQ), func(p *api.Params) { p.Burst = 0 }, api.ErrBurst},
		{good(api.WFQ), func(p *api.Params) { p.Burst = 1 << 40 }, api.OK},
		{good(api.WFQ), func(p *api.Params) { p.Burst = 1<<40 + 1 }, api.ErrBurst},
		{good(api.DRR), func(p *api.Params) {}, api.ErrQuantum},
		{good(api.DRR), func(p *api.Params) { p.Quantum = 1 }, api.OK},
		{good(api.DRR), func(p *api.Params) { p.Quantum, p.Class = 1, 1 }, api.ErrClass},
		{good(api.DRR), func(p *api.Params) { p.Quantum, p.Span = 1, 1 }, api.ErrSpan},
		{good(api.EDF), func(p *api.Params) { p.Span = 1 << 40 }, api.OK},
		{good(api.EDF), func(p *api.Params) { p.Span = 1<<40 + 1 }, api.ErrSpan},
		{good(api.EDF), func(p *api.Params) { p.Class = 1 }, api.ErrClass},
		{good(api.EDF), func(p *api.Params) { p.Quantum = 1 }, api.ErrQuantum},
		{good(api.AGE), func(p *api.Params) { p.Class = 15 }, api.OK},
		{good(api.AGE), func(p *api.Params) { p.Class = 16 }, api.ErrClass},
		{good(api.AGE), func(p *api.Params) { p.Span = 1 }, api.ErrSpan},
		{good(api.AGE), func(p *api.Params) { p.Quantum = 1 }, api.ErrQuantum},
		{tree, func(p *api.Params) { p.Node = 0 }, api.ErrArg},
		{tree, func(p *api.Params) { p.Node = 2 }, api.ErrArg},
		{tree, func(p *api.Params) { p.Node = 4 }, api.ErrArg},
		{tree, func(p *api.Params) { p.Node = math.MinInt }, api.ErrArg},
		{tree, func(p *api.Params) { p.Node = 3 }, api.ErrQuantum},
		{tree, func(p *api.Params) { p.Node, p.Quantum = 3, 4 }, api.OK},
		{tree, func(p *api.Params) { p.Node, p.Class = 1, 3 }, api.OK},
		{tree, func(p *api.Params) { p.Node, p.Span = 1, 1 }, api.ErrSpan},
		{api.Conf{}, func(p *api.Params) {}, api.ErrKind},
	} {
		p := plain(api.WFQ)
		x.turn(&p)
		answers(t, i, conf.CheckFlow(x.c, p), x.e)
	}
}

// 9.2: the first error in the order of the chapter, of all joins of good and bad fields; the set-up's ahead of all.
func TestFlowOrder(t *testing.T) {
	wrong := good(api.WFQ)
	wrong.Flows = 0
	setups := []api.Conf{flat(), wrong}
	for _, kind := range leaves {
		setups = append(setups, good(kind))
	}
	for _, c := range setups {
		nodes := []int{0, 1}
		if c.Kind == api.TREE {
			nodes = []int{-1, 0, 1, 3, 4, 5, 6, 8}
		}
		for _, node := range nodes {
			flowsOf(node, func(p api.Params) { answers(t, p, conf.CheckFlow(c, p), wantFlow(c, p)) })
		}
	}
}

// flowsOf goes through flows of a node with all joins of these fields.
func flowsOf(node int, do func(p api.Params)) {
	for _, weight := range []int{0, 1, 10, 11} {
		for _, quantum := range []int{-1, 0, 1, 1 << 30, 1<<30 + 1} {
			for _, class := range []int{-1, 0, 15, 16} {
				for _, span := range []int{-1, 0, 1 << 40, 1<<40 + 1} {
					for _, burst := range []int{0, 1, 1<<40 + 1} {
						for _, rate := range []float64{-1, 0, 1 << 20, math.NaN()} {
							for _, per := range []int{0, 1, 1<<30 + 1} {
								do(api.Params{Weight: weight, Quantum: quantum, Class: class, Span: span, Burst: burst, Rate: rate, Per: per, Node: node})
							}
						}
					}
				}
			}
		}
	}
}
