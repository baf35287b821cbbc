package drr

import (
	"math"

	"millrace/api"
)

// Ring are the flows that have something queued.
func (d *DRR) Ring() []api.Handle {
	var l []api.Handle
	for _, f := range d.ring.All() {
		l = append(l, f.handle)
	}
	return l
}

// Deficit is a flow's.
func (d *DRR) Deficit(h api.Handle) (int, api.Errno) {
	f, e := d.open(h)
	if e != api.OK {
		return 0, e
	}
	if holder, ok := d.Turn(); ok && holder == h {
		return f.kept + f.quantum, api.OK
	}
	return f.kept, api.OK
}

// Turn is who has the turn.
func (d *DRR) Turn() (api.Handle, bool) {
	if !d.turn {
		return api.Handle{}, false
	}
	head, _ := d.ring.Front()
	return head.handle, true
}

// passing is how many turns pass till a packet is found, each with its flow going to the ring's end. A turn that somebody has counts as one that he is still to get, since its quantum is not in what he has kept. Something must be queued.
func (d *DRR) passing() int {
	rounds, place := 0, 0
turns:
	for {
		least := math.MaxInt
		for place = range d.ring.Len() {
			f, _ := d.ring.At(place)
			vain := f.vain()
			if vain <= rounds {
				break turns
			}
			least = min(least, vain)
		}
		// Till so many rounds have passed, each ends as this one did, however many they are.
		rounds = least
	}
	return rounds*d.ring.Len() + place
}

// vain is how many of a flow's turns pass ahead of the one in which it can send; below 1 there are none.
func (f *flow) vain() int {
	first, _ := f.queue.Front()
	return (first.Size - f.kept - 1) / f.quantum
}

// pass lets so many turns pass. Behind them the head has the turn.
func (d *DRR) pass(turns int) {
	n := d.ring.Len()
	for place := range min(turns, n) {
		f, _ := d.ring.At(place)
		// This one has every n-th turn, from the turn of this number on.
		own := (turns-place-1)/n + 1
		f.kept += own * f.quantum
	}
	d.ring.Turn(turns)
	d.turn = true
}

// takeOut takes a flow out of the ring.
func (d *DRR) takeOut(f *flow) {
	f.kept = 0
	for place := range d.ring.Len() {
		if x, _ := d.ring.At(place); x != f {
			continue
		}
		d.ring.Take(place)
		// Only the head can have the turn.
		d.turn = d.turn && place > 0
		return
	}
}
