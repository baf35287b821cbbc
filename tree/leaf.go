package tree

import (
	"millrace/api"
	"millrace/disc"
	"millrace/drr"
	"millrace/due"
	"millrace/wfq"
)

// disciplineOf is a new discipline of a leaf's kind; nil, if the node is no leaf.
func disciplineOf(n api.Node) disc.Discipline {
	switch n.Kind {
	case api.WFQ:
		return wfq.New()
	case api.WF2:
		return wfq.New2()
	case api.DRR:
		return drr.New()
	case api.EDF:
		return due.NewEDF()
	case api.AGE:
		return due.NewAge(n.Age)
	}
	return nil
}

// leaf is the leaf of that number.
func (x *Tree) leaf(number int) (*node, bool) {
	n, ok := x.node(number)
	return n, ok && n.discipline != nil
}

// leafOf is the leaf to which an open flow belongs.
func (x *Tree) leafOf(h api.Handle) (*node, api.Errno) {
	f, ok := x.flows[h.Slot]
	if !ok || f.handle != h {
		return nil, api.ErrHandle
	}
	return f.leaf, api.OK
}

// Time is a leaf's own.
func (x *Tree) Time(leaf, t int) (int, api.Errno) {
	x.advance(t)
	n, ok := x.leaf(leaf)
	if !ok {
		return 0, api.ErrArg
	}
	return n.time, api.OK
}

// advance brings the tree's time to t, and the leaves' own on with it.
func (x *Tree) advance(t int) {
	if t <= x.time {
		return
	}
	ticks := t - x.time
	x.time = t
	sent := min(ticks, x.rest)
	x.rest -= sent
	for _, n := range x.nodes {
		switch {
		case n.bytes == 0:
			n.time += ticks
		case n == x.sender:
			n.time += sent
		}
	}
}

// tickOf is what a leaf's discipline is handed in the place of the tree's time.
func (x *Tree) tickOf(leaf *node) int {
	if leaf.fluid {
		return leaf.time
	}
	return x.time
}

// own is a packet as the leaf's discipline is handed it. (What it tells is told as it came, by its number.)
func (n *node) own(p api.Packet) api.Packet {
	if n.fluid {
		p.Came = n.time
	}
	return p
}
