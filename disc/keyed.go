package disc

import (
	"iter"

	"millrace/api"
	"millrace/heap"
	"millrace/ring"
)

// Keyed is queued packets in the order of their keys. It chooses by these alone, so it keeps no time: the ticks that it is handed change none of its answers.
type Keyed[K Key[K]] struct {
	flows  map[int]*flow[K] // the open ones, by their slots
	weight int              // of the open flows together
	order  *heap.Heap[entry[K], *flow[K]]
	seq    int // of the packet that was queued last
	came   int // when that one came
}

// flow is an open flow. Its queue is in the order of the packets, since Put lets no key fall.
type flow[K Key[K]] struct {
	handle api.Handle
	params api.Params
	queue  *ring.Ring[place[K]]
}

// place is a queued packet, and the number under which it lies in the heap.
type place[K Key[K]] struct {
	entry[K]
	item int
}

// entry is a packet with its key.
type entry[K Key[K]] struct {
	key    K
	packet api.Packet
}

// before is the order of the packets.
func (a entry[K]) before(b entry[K]) bool {
	if c := a.key.Cmp(b.key); c != 0 {
		return c < 0
	}
	return a.packet.Seq < b.packet.Seq
}

// NewKeyed is an empty one.
func NewKeyed[K Key[K]]() *Keyed[K] {
	return &Keyed[K]{
		flows: make(map[int]*flow[K]),
		order: heap.New[entry[K], *flow[K]](entry[K].before),
	}
}

// Join opens a flow.
func (q *Keyed[K]) Join(h api.Handle, p api.Params, t int) api.Errno {
	if q.flows[h.Slot] != nil {
		return api.ErrHandle
	}
	q.flows[h.Slot] = &flow[K]{handle: h, params: p, queue: ring.New[place[K]]()}
	q.weight += p.Weight
	return api.OK
}

// Params are a flow's.
func (q *Keyed[K]) Params(h api.Handle) (api.Params, api.Errno) {
	f, e := q.open(h)
	if e != api.OK {
		return api.Params{}, e
	}
	return f.params, api.OK
}

// Leave closes a flow.
func (q *Keyed[K]) Leave(h api.Handle, t int) ([]api.Packet, api.Errno) {
	f, e := q.open(h)
	if e != api.OK {
		return nil, e
	}
	delete(q.flows, h.Slot)
	q.weight -= f.params.Weight
	var left []api.Packet
	for f.queue.Len() > 0 {
		left = append(left, q.takeFirst(f))
	}
	return left, api.OK
}

// Check is what is wrong with a packet that comes.
func (q *Keyed[K]) Check(p api.Packet) api.Errno {
	_, e := q.taker(p)
	return e
}

// Put queues a packet.
func (q *Keyed[K]) Put(p api.Packet, k K) api.Errno {
	f, e := q.takerUnder(p, k)
	if e != api.OK {
		return e
	}
	x := entry[K]{k, p}
	f.queue.PushBack(place[K]{x, q.order.Push(x, f)})
	q.seq, q.came = p.Seq, p.Came
	return api.OK
}

// Spare is who would go for a packet.
func (q *Keyed[K]) Spare(p api.Packet, k K, need int) ([]api.Packet, api.Errno) {
	if _, e := q.takerUnder(p, k); e != api.OK {
		return nil, e
	}
	if need < 1 {
		return nil, api.OK
	}
	comes := entry[K]{k, p}
	var victims []api.Packet
	for x := range q.backward {
		if !comes.before(x) {
			break
		}
		victims = append(victims, x.packet)
		need -= x.packet.Size
		if need < 1 {
			return victims, api.OK
		}
	}
	return nil, api.ErrRefused
}

// Evict takes a flow's last packet out.
func (q *Keyed[K]) Evict(p api.Packet) api.Errno {
	f, e := q.open(p.Flow)
	if e != api.OK {
		return api.ErrItem
	}
	last, ok := f.queue.Back()
	if !ok || last.packet.Seq != p.Seq {
		return api.ErrItem
	}
	f.queue.PopBack()
	q.order.Remove(last.item)
	return api.OK
}

// Next takes the first packet out.
func (q *Keyed[K]) Next(t int) (api.Packet, bool) {
	_, _, f, ok := q.order.Min()
	if !ok {
		return api.Packet{}, false
	}
	return q.takeFirst(f), true
}

// Peek is the first packet.
func (q *Keyed[K]) Peek(t int) (api.Packet, bool) {
	_, _, f, ok := q.order.Min()
	if !ok {
		return api.Packet{}, false
	}
	first, _ := f.queue.Front()
	return first.packet, true
}

// Worst is the packet with n behind it.
func (q *Keyed[K]) Worst(n int) (api.Packet, bool) {
	if n < 0 || n >= q.Len() {
		return api.Packet{}, false
	}
	var worst api.Packet
	for x := range q.backward {
		worst = x.packet
		if n == 0 {
			break
		}
		n--
	}
	return worst, true
}

// Pick takes a flow's first packet out.
func (q *Keyed[K]) Pick(seq int) (api.Packet, bool) {
	for _, f := range q.flows {
		if first, ok := f.queue.Front(); ok && first.packet.Seq == seq {
			return q.takeFirst(f), true
		}
	}
	return api.Packet{}, false
}

// All goes through all.
func (q *Keyed[K]) All() iter.Seq2[K, api.Packet] {
	return func(yield func(K, api.Packet) bool) {
		for x := range q.forward {
			if !yield(x.key, x.packet) {
				return
			}
		}
	}
}

// Weight is the sum of the open flows' weights.
func (q *Keyed[K]) Weight(t int) int { return q.weight }

// Len is how many packets are queued.
func (q *Keyed[K]) Len() int { return q.order.Len() }

// open is the open flow of a handle.
func (q *Keyed[K]) open(h api.Handle) (*flow[K], api.Errno) {
	f := q.flows[h.Slot]
	if f == nil || f.handle != h {
		return nil, api.ErrHandle
	}
	return f, api.OK
}

// taker is the flow of a packet that may come.
func (q *Keyed[K]) taker(p api.Packet) (*flow[K], api.Errno) {
	f, e := q.open(p.Flow)
	if e != api.OK {
		return nil, e
	}
	if p.Size < 1 || p.Size > api.MaxSize || p.Seq <= q.seq {
		return nil, api.ErrArg
	}
	// The tick of the packet ahead of it is never below 0.
	if p.Came < q.came || p.Came > api.MaxTime {
		return nil, api.ErrArg
	}
	return f, api.OK
}

// takerUnder is the flow of a packet that may come under the key k.
func (q *Keyed[K]) takerUnder(p api.Packet, k K) (*flow[K], api.Errno) {
	f, e := q.taker(p)
	if e != api.OK {
		return nil, e
	}
	// No queued packet of the flow has a greater key than its last one.
	if last, ok := f.queue.Back(); ok && k.Cmp(last.key) < 0 {
		return nil, api.ErrArg
	}
	return f, api.OK
}

// takeFirst takes the first packet of a flow out; there must be one.
func (q *Keyed[K]) takeFirst(f *flow[K]) api.Packet {
	first, _ := f.queue.PopFront()
	q.order.Remove(first.item)
	return first.packet
}
