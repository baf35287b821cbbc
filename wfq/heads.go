package wfq

import (
	"millrace/api"
	"millrace/heap"
	"millrace/rat"
	"millrace/ring"
)

// heads are the flows' first queued packets, by whether the fluid has begun them. They are looked at for each packet that is told, so they are kept: to find them anew, all that is queued would have to be gone through.
type heads struct {
	starts  map[int]rat.Rat // of all queued packets, by their numbers
	lines   map[api.Handle]*line
	waiting *heap.Heap[rat.Rat, *line] // by their starts
	begun   *heap.Heap[tagged, *line]  // those whose start is at most virtual
	virtual rat.Rat                    // V as it was handed in last
}

// line is the queued packets of a flow that has some. Its first one lies in one of the two heaps, under the number item.
type line struct {
	queue *ring.Ring[tagged]
	begun bool
	item  int
}

// tagged is a packet with its tag.
type tagged struct {
	tag    rat.Rat
	packet api.Packet
}

// before is the order in which packets are sent.
func (a tagged) before(b tagged) bool {
	if c := a.tag.Cmp(b.tag); c != 0 {
		return c < 0
	}
	return a.packet.Seq < b.packet.Seq
}

func newHeads() *heads {
	sooner := func(a, b rat.Rat) bool { return a.Cmp(b) < 0 }
	return &heads{
		starts:  make(map[int]rat.Rat),
		lines:   make(map[api.Handle]*line),
		waiting: heap.New[rat.Rat, *line](sooner),
		begun:   heap.New[tagged, *line](tagged.before),
	}
}

// add puts a packet behind those of its flow.
func (h *heads) add(p api.Packet, start, tag rat.Rat) {
	h.starts[p.Seq] = start
	l := h.lines[p.Flow]
	if l != nil {
		l.queue.PushBack(tagged{tag, p})
		return
	}
	l = &line{queue: ring.New[tagged]()}
	l.queue.PushBack(tagged{tag, p})
	h.lines[p.Flow] = l
	h.wait(l)
}

// dropFirst forgets the first packet of a flow; there must be one.
func (h *heads) dropFirst(flow api.Handle) {
	l := h.lines[flow]
	h.lift(l)
	first, _ := l.queue.PopFront()
	delete(h.starts, first.packet.Seq)
	if l.queue.Len() == 0 {
		delete(h.lines, flow)
		return
	}
	h.wait(l)
}

// dropLast forgets the last packet of a flow; there must be one.
func (h *heads) dropLast(flow api.Handle) {
	l := h.lines[flow]
	if l.queue.Len() == 1 {
		h.dropFirst(flow)
		return
	}
	last, _ := l.queue.PopBack()
	delete(h.starts, last.packet.Seq)
}

// least is the least packet of those that the fluid has begun at V.
func (h *heads) least(virtual rat.Rat) (api.Packet, bool) {
	h.sift(virtual)
	_, first, _, ok := h.begun.Min()
	return first.packet, ok
}

// sift finds out what the fluid has begun at V.
func (h *heads) sift(virtual rat.Rat) {
	// Behind an empty fluid V is less than it was, and what had begun may have to wait again.
	if virtual.Cmp(h.virtual) < 0 {
		h.waitAll()
	}
	h.virtual = virtual
	for {
		_, start, l, ok := h.waiting.Min()
		if !ok || start.Cmp(virtual) > 0 {
			return
		}
		h.waiting.PopMin()
		h.begin(l)
	}
}

// waitAll lets all heads wait.
func (h *heads) waitAll() {
	for {
		_, _, l, ok := h.begun.PopMin()
		if !ok {
			return
		}
		h.wait(l)
	}
}

// wait lays a line's first packet among those that wait, also one that the fluid has begun: that is found out when the least one is asked for.
func (h *heads) wait(l *line) {
	first, _ := l.queue.Front()
	l.begun, l.item = false, h.waiting.Push(h.starts[first.packet.Seq], l)
}

// begin lays a line's first packet among those that the fluid has begun.
func (h *heads) begin(l *line) {
	first, _ := l.queue.Front()
	l.begun, l.item = true, h.begun.Push(first, l)
}

// lift takes a line's first packet out of the heap in which it lies.
func (h *heads) lift(l *line) {
	if l.begun {
		h.begun.Remove(l.item)
		return
	}
	h.waiting.Remove(l.item)
}
