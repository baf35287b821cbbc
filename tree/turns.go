package tree

import (
	"math"

	"millrace/api"
)

// Ring are the children that have something queued.
func (x *Tree) Ring(node int) []int {
	n, ok := x.node(node)
	if !ok {
		return nil
	}
	var l []int
	for _, child := range n.ring.All() {
		l = append(l, child.number)
	}
	return l
}

// Turn is the child that has the turn.
func (x *Tree) Turn(node int) (int, bool) {
	n, ok := x.node(node)
	if !ok || !n.turn {
		return 0, false
	}
	head, _ := n.ring.Front()
	return head.number, true
}

// Deficit is a node's.
func (x *Tree) Deficit(node int) (int, api.Errno) {
	n, ok := x.node(node)
	if !ok || n.parent == nil {
		return 0, api.ErrArg
	}
	if holder, ok := x.Turn(n.parent.number); ok && holder == node {
		return n.kept + n.quantum, api.OK
	}
	return n.kept, api.OK
}

// Next takes the next packet out.
func (x *Tree) Next(t int) (api.Packet, bool) {
	x.advance(t)
	if x.Len() == 0 {
		return api.Packet{}, false
	}
	n := x.nodes[0]
	for n.discipline == nil {
		n.pass(x.look(n))
		n, _ = n.ring.Front()
	}
	told, _ := n.discipline.Next(x.tickOf(n))
	p := x.packets[told.Seq]
	n.spend(p.Size)
	x.forget(n, p.Seq)
	x.sender, x.rest = n, p.Size
	return p, true
}

// Peek is what Next would tell.
func (x *Tree) Peek(t int) (api.Packet, bool) {
	x.advance(t)
	if x.Len() == 0 {
		return api.Packet{}, false
	}
	return x.look(x.nodes[0]).first, true
}

// sight is what is found at a node: its first packet, and, if it is no leaf, the turns that pass till that one is found: so many whole rounds of the ring, and then those of the children ahead of a place.
type sight struct {
	first  api.Packet
	rounds int
	place  int
}

// look is what is found at a node that has something queued. A turn that a child has counts as one that it is still to get, since its quantum is not in what it has kept.
func (x *Tree) look(n *node) sight {
	if n.discipline != nil {
		first, _ := n.discipline.Peek(x.tickOf(n))
		return sight{first: x.packets[first.Seq]}
	}
	found := sight{rounds: math.MaxInt}
	for place, child := range n.ring.All() {
		first := x.look(child).first
		if vain := child.vain(first.Size); vain < found.rounds {
			found = sight{first, vain, place}
		}
	}
	return found
}

// vain is how many of a child's turns pass ahead of the one in which it can send so many bytes.
func (n *node) vain(size int) int { return max((size-n.kept-1)/n.quantum, 0) }

// pass lets the turns ahead of what was found pass. Behind them the head has the turn.
func (n *node) pass(s sight) {
	for place, child := range n.ring.All() {
		turns := s.rounds
		if place < s.place {
			turns++
		}
		child.kept += turns * child.quantum
	}
	n.ring.Turn(s.place)
	n.turn = true
}

// spend takes a packet off the deficits on the way up from its leaf.
func (n *node) spend(size int) {
	for ; n.parent != nil; n = n.parent {
		n.kept -= size
	}
}

// gain counts a packet that a leaf got, up to the root; who had nothing goes into the ring.
func (n *node) gain(size int) {
	for ; n != nil; n = n.parent {
		if n.bytes == 0 && n.parent != nil {
			n.parent.ring.PushBack(n)
		}
		n.bytes += size
	}
}

// lose counts a packet off that a leaf has no more, up to the root; who has nothing left goes out of the ring.
func (n *node) lose(size int) {
	for ; n != nil; n = n.parent {
		n.bytes -= size
		if n.bytes == 0 && n.parent != nil {
			n.parent.release(n)
		}
	}
}

// release takes a child out of the ring.
func (n *node) release(child *node) {
	child.kept = 0
	for place, x := range n.ring.All() {
		if x == child {
			n.ring.Take(place)
			// Only the head can have the turn.
			n.turn = n.turn && place > 0
		}
	}
}
