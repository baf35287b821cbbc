package wfq

import (
	"millrace/api"
	"millrace/disc"
	"millrace/gps"
	"millrace/rat"
)

// base is what both disciplines have: a fluid that is fed all that is admitted, and what is queued, by its tags. The discipline's time is the fluid's.
type base struct {
	fluid  *gps.Tracker
	queue  *disc.Keyed[rat.Rat]
	shares map[api.Handle]share // of the open flows
	joined int                  // how many flows ever were
}

// share is what an open flow is to the fluid: a number that no other flow ever had, and a weight.
type share struct{ flow, weight int }

func newBase() base {
	return base{
		fluid:  gps.New(),
		queue:  disc.NewKeyed[rat.Rat](),
		shares: make(map[api.Handle]share),
	}
}

// Join opens a flow.
func (b *base) Join(h api.Handle, p api.Params, t int) api.Errno {
	b.fluid.Advance(t)
	if e := b.queue.Join(h, p, t); e != api.OK {
		return e
	}
	b.joined++
	b.shares[h] = share{b.joined, min(max(p.Weight, 1), api.MaxWeight)}
	return api.OK
}

// Leave closes a flow. The fluid still serves what it has of it.
func (b *base) Leave(h api.Handle, t int) ([]api.Packet, api.Errno) {
	b.fluid.Advance(t)
	left, e := b.queue.Leave(h, t)
	if e != api.OK {
		return nil, e
	}
	delete(b.shares, h)
	return left, api.OK
}

// Tags are the start and the tag that p would get.
func (b *base) Tags(p api.Packet) (rat.Rat, rat.Rat, api.Errno) {
	b.fluid.Advance(p.Came)
	if e := b.queue.Check(p); e != api.OK {
		return rat.Rat{}, rat.Rat{}, e
	}
	s := b.shares[p.Flow]
	start, tag, e := b.fluid.Tag(s.flow, s.weight, p.Size)
	if e != api.OK {
		return rat.Rat{}, rat.Rat{}, e
	}
	// Where nobody is to go, Spare tells just whether the queue takes p under the tag.
	if _, e := b.queue.Spare(p, tag, 0); e != api.OK {
		return rat.Rat{}, rat.Rat{}, e
	}
	return start, tag, api.OK
}

// Admit queues a packet.
func (b *base) Admit(p api.Packet) api.Errno {
	_, _, e := b.admit(p)
	return e
}

// admit queues a packet, and tells its start and its tag.
func (b *base) admit(p api.Packet) (rat.Rat, rat.Rat, api.Errno) {
	start, tag, e := b.Tags(p)
	if e != api.OK {
		return rat.Rat{}, rat.Rat{}, e
	}
	s := b.shares[p.Flow]
	b.fluid.Admit(s.flow, s.weight, p.Size)
	b.queue.Put(p, tag)
	return start, tag, api.OK
}

// Plan is who would go.
func (b *base) Plan(p api.Packet, need int) ([]api.Packet, api.Errno) {
	_, tag, e := b.Tags(p)
	if e != api.OK {
		return nil, e
	}
	return b.queue.Spare(p, tag, need)
}

// Evict takes a packet out. The fluid serves it all the same.
func (b *base) Evict(p api.Packet) api.Errno { return b.queue.Evict(p) }

// Worst is the worst one behind n others.
func (b *base) Worst(n int) (api.Packet, bool) { return b.queue.Worst(n) }

// Weight is the weights that count: of all flows that the fluid has, also of those that left, and of the open ones that it has not.
func (b *base) Weight(t int) int {
	b.fluid.Advance(t)
	sum := b.fluid.Weight()
	for _, s := range b.shares {
		if !b.fluid.Has(s.flow) {
			sum += s.weight
		}
	}
	return sum
}

// Len is how many are queued.
func (b *base) Len() int { return b.queue.Len() }

// Virtual is V.
func (b *base) Virtual(t int) rat.Rat {
	b.fluid.Advance(t)
	return b.fluid.Virtual()
}

// Fluid is what the fluid has not served.
func (b *base) Fluid(t int) rat.Rat {
	b.fluid.Advance(t)
	var left []rat.Rat
	for _, flow := range b.fluid.Flows() {
		left = append(left, b.fluid.Left(flow))
	}
	return rat.Sum(left...)
}
