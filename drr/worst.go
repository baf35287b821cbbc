package drr

import (
	"cmp"
	"math/bits"
	"slices"

	"millrace/api"
)

// share is what a packet is found the worst by: the bytes of its flow up to it, by the flow's quantum. (Those behind it are aside when it is found, since of a flow the last one is found first. So the order in which packets are found is one of all packets, and that of a new one among them.)
type share struct {
	flow  *flow
	place int // of the packet in the flow's queue
	bytes int
}

// compare is above 0 if a is found ahead of b.
func (a share) compare(b share) int {
	// A queue has no bound here, so a product may have more than 64 bits.
	high, low := bits.Mul64(uint64(a.bytes), uint64(b.flow.quantum))
	highB, lowB := bits.Mul64(uint64(b.bytes), uint64(a.flow.quantum))
	return cmp.Or(
		cmp.Compare(high, highB),
		cmp.Compare(low, lowB),
		cmp.Compare(a.flow.handle.Slot, b.flow.handle.Slot),
	)
}

// packet is the one whose share it is.
func (a share) packet() api.Packet {
	p, _ := a.flow.queue.At(a.place)
	return p
}

// Plan is who would go for a packet.
func (d *DRR) Plan(p api.Packet, need int) ([]api.Packet, api.Errno) {
	f, e := d.taker(p)
	if e != api.OK {
		return nil, e
	}
	if need < 1 {
		return nil, api.OK
	}
	comes := share{f, f.queue.Len(), f.bytes + p.Size}
	var victims []api.Packet
	for x := range d.backward {
		if x.compare(comes) < 0 {
			break
		}
		victim := x.packet()
		victims = append(victims, victim)
		need -= victim.Size
		if need < 1 {
			return victims, api.OK
		}
	}
	return nil, api.ErrRefused
}

// Worst is the one that is found the worst behind n others.
func (d *DRR) Worst(n int) (api.Packet, bool) {
	if n < 0 || n >= d.count {
		return api.Packet{}, false
	}
	var worst share
	for x := range d.backward {
		worst = x
		if n == 0 {
			break
		}
		n--
	}
	return worst.packet(), true
}

// backward goes through all packets in the order in which they are found. It walks in the queues themselves: nothing may change meanwhile.
func (d *DRR) backward(yield func(share) bool) {
	var row []share // of each flow the packet to which the walk has come, the worst one at the end
	for _, f := range d.ring.All() {
		row = append(row, share{f, f.queue.Len() - 1, f.bytes})
	}
	slices.SortFunc(row, share.compare)
	for len(row) > 0 {
		x := row[len(row)-1]
		row = row[:len(row)-1]
		if !yield(x) {
			return
		}
		if x.place == 0 {
			continue
		}
		ahead := share{x.flow, x.place - 1, x.bytes - x.packet().Size}
		at, _ := slices.BinarySearchFunc(row, ahead, share.compare)
		row = slices.Insert(row, at, ahead)
	}
}
