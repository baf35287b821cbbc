package tree

import (
	"cmp"
	"math/bits"
	"sort"

	"millrace/api"
)

// search finds the worst packets, one behind the other, those that were found being aside.
type search struct {
	tree  *Tree
	bytes []int // of each node, without those that are aside
	found []int // how many are aside, of each leaf
	comer *comer
}

// comer is a packet that comes, among the others of its leaf.
type comer struct {
	leaf   *node
	packet api.Packet // as the leaf is handed it
	need   int
	spared []api.Packet // whom the leaf lets go for it; not looked for ahead of the first one that is wanted
}

// search is one at its beginning, no packet coming.
func (x *Tree) search() *search {
	s := &search{tree: x, found: make([]int, len(x.nodes))}
	for _, n := range x.nodes {
		s.bytes = append(s.bytes, n.bytes)
	}
	return s
}

// Plan is who would go for a packet.
func (x *Tree) Plan(p api.Packet, need int) ([]api.Packet, api.Errno) {
	leaf, e := x.taker(p)
	if e != api.OK {
		return nil, e
	}
	if _, e := leaf.discipline.Plan(leaf.own(p), 0); e != api.OK {
		return nil, e
	}
	s := x.search()
	s.comes(leaf, p, need)
	var victims []api.Packet
	for need > 0 {
		victim, ok := s.next()
		if !ok {
			return nil, api.ErrRefused
		}
		victims = append(victims, victim)
		need -= victim.Size
	}
	return victims, api.OK
}

// Worst is the one that is found the worst behind n others.
func (x *Tree) Worst(n int) (api.Packet, bool) {
	if n < 0 || n >= x.Len() {
		return api.Packet{}, false
	}
	s := x.search()
	for range n {
		s.next()
	}
	return s.next()
}

// comes lets a packet come, for which so many bytes are to go.
func (s *search) comes(leaf *node, p api.Packet, need int) {
	s.comer = &comer{leaf: leaf, packet: leaf.own(p), need: need}
	s.count(leaf, p.Size)
}

// spared is whom a leaf lets go for a packet of its own, till so many bytes are found, or the packet itself.
func (n *node) spared(p api.Packet, need int) []api.Packet {
	l, e := n.discipline.Plan(p, need)
	if e == api.OK {
		return l
	}
	// A plan for more begins with the plan for less: so the longest one there is will do.
	most := sort.Search(min(need, n.bytes), func(bytes int) bool {
		_, e := n.discipline.Plan(p, bytes+1)
		return e != api.OK
	})
	l, _ = n.discipline.Plan(p, most)
	return l
}

// next lays the worst packet aside; false, if that is the one that comes. There must be one.
func (s *search) next() (api.Packet, bool) {
	leaf := s.worstLeaf()
	p, ok := s.worstOf(leaf)
	if !ok {
		return api.Packet{}, false
	}
	p = s.tree.packets[p.Seq]
	s.found[leaf.number]++
	s.count(leaf, -p.Size)
	return p, true
}

// worstOf is what a leaf finds the worst behind those that are aside; false, if that is the one that comes.
func (s *search) worstOf(leaf *node) (api.Packet, bool) {
	aside, c := s.found[leaf.number], s.comer
	if c == nil || c.leaf != leaf {
		return leaf.discipline.Worst(aside)
	}
	if aside == 0 {
		c.spared = leaf.spared(c.packet, c.need)
	}
	if aside == len(c.spared) {
		return api.Packet{}, false
	}
	return c.spared[aside], true
}

// worstLeaf is where the worst packet is.
func (s *search) worstLeaf() *node {
	n := s.tree.nodes[0]
	for n.discipline == nil {
		worst := n.children[0]
		for _, child := range n.children[1:] {
			// Of equal ones it is the later one. Who has nothing is never above one who has.
			if s.compare(child, worst) >= 0 {
				worst = child
			}
		}
		n = worst
	}
	return n
}

// compare is how two children's bytes stand, by their quanta. A queue has no bound here, so a product may have more than 64 bits.
func (s *search) compare(a, b *node) int {
	high, low := bits.Mul64(uint64(s.bytes[a.number]), uint64(b.quantum))
	highB, lowB := bits.Mul64(uint64(s.bytes[b.number]), uint64(a.quantum))
	return cmp.Or(cmp.Compare(high, highB), cmp.Compare(low, lowB))
}

// count adds bytes to a leaf, up to the root.
func (s *search) count(leaf *node, bytes int) {
	for n := leaf; n != nil; n = n.parent {
		s.bytes[n.number] += bytes
	}
}
