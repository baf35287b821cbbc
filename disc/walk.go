package disc

import (
	"maps"
	"slices"

	"millrace/heap"
	"millrace/ring"
)

// walk goes through several queues at one time. Each is in order by itself, so what comes next of all is among the packets at which the walk stands, one of each queue.
type walk[K Key[K]] struct {
	*heap.Heap[entry[K], spot[K]]
}

// spot is where a walk stands in a queue.
type spot[K Key[K]] struct {
	queue *ring.Ring[place[K]]
	at    int
}

func newWalk[K Key[K]]() walk[K] {
	return walk[K]{heap.New[entry[K], spot[K]](entry[K].before)}
}

// stand lets the walk stand at a spot, unless that is past an end of its queue.
func (w walk[K]) stand(s spot[K]) {
	if x, ok := s.queue.At(s.at); ok {
		w.Push(x.entry, s)
	}
}

// backward goes through all packets from the last of the order on. It walks in the queues themselves: nothing may change meanwhile.
func (q *Keyed[K]) backward(yield func(entry[K]) bool) {
	_, _, worst, ok := q.order.Max()
	if !ok {
		return
	}
	// The heap has the last one at hand; often no other is asked for, and then no walk is needed.
	last, _ := worst.queue.Back()
	if !yield(last.entry) {
		return
	}
	w := newWalk[K]()
	for _, f := range q.bySlot() {
		at := f.queue.Len() - 1
		if f == worst {
			at--
		}
		w.stand(spot[K]{f.queue, at})
	}
	for {
		_, x, s, ok := w.PopMax()
		if !ok || !yield(x) {
			return
		}
		w.stand(spot[K]{s.queue, s.at - 1})
	}
}

// forward goes through all packets from the first of the order on, as they were queued when it began.
func (q *Keyed[K]) forward(yield func(entry[K]) bool) {
	w := newWalk[K]()
	for _, f := range q.bySlot() {
		w.stand(spot[K]{copied(f.queue), 0})
	}
	for {
		_, x, s, ok := w.PopMin()
		if !ok || !yield(x) {
			return
		}
		w.stand(spot[K]{s.queue, s.at + 1})
	}
}

// bySlot is the open flows by rising slots, so that no walk hangs on the order of a map.
func (q *Keyed[K]) bySlot() []*flow[K] {
	var flows []*flow[K]
	for _, slot := range slices.Sorted(maps.Keys(q.flows)) {
		flows = append(flows, q.flows[slot])
	}
	return flows
}

// copied is a queue of its own with the same packets.
func copied[K Key[K]](queue *ring.Ring[place[K]]) *ring.Ring[place[K]] {
	c := ring.New[place[K]]()
	for _, x := range queue.All() {
		c.PushBack(x)
	}
	return c
}
