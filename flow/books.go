package flow

import "millrace/api"

// books are counters, and what may happen to a packet that they count: what happens to one is told to the books of its flow and to those of all alike.
type books struct {
	api.Counters
}

// refuse counts one that is offered and refused.
func (b *books) refuse(size int) {
	enter(&b.Offered, size)
	enter(&b.Refused, size)
}

// admit counts one that is offered and queued.
func (b *books) admit(size int) {
	enter(&b.Offered, size)
	enter(&b.Queued, size)
}

// evict counts one that was queued as evicted.
func (b *books) evict(size int) { move(&b.Queued, &b.Evicted, size) }

// begin counts one that was queued as sending.
func (b *books) begin(size int) { move(&b.Queued, &b.Sending, size) }

// leave counts the one that was sending as departed.
func (b *books) leave(size int) { move(&b.Sending, &b.Departed, size) }

// enter counts a packet more.
func enter(c *api.Count, size int) {
	c.Packets++
	c.Bytes += size
}

// move counts a packet elsewhere.
func move(from, to *api.Count, size int) {
	from.Packets--
	from.Bytes -= size
	enter(to, size)
}
