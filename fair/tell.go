package fair

import (
	"math/bits"

	"millrace/api"
	"millrace/gauge"
	"millrace/rat"
)

// record is what is kept of an open flow's departures beside its books.
type record struct {
	delays *gauge.Gauge
	timed  bool // whether its packets have deadlines
	span   int
	late   int
}

// keep counts a departure. Only Delays is asked of a flow's gauge, which does not tell delays from one power of 2 to the next apart: so their power stands for them, and few are kept.
func (r *record) keep(d api.Departure) {
	delay := d.Left - d.Came
	r.delays.Add(power(delay), d.Size)
	if r.timed && delay > r.span {
		r.late++
	}
}

// power is the greatest power of 2 that is at most n, and 0 of 0.
func power(n int) int { return int(uint(1) << bits.Len(uint(n)) >> 1) }

// Stats are a flow's books.
func (f *Fair) Stats(h api.Handle) (api.Counters, api.Errno) {
	if _, e := f.begin(false); e != api.OK {
		return api.Counters{}, e
	}
	return f.flows.Books(h)
}

// Total are the books of all.
func (f *Fair) Total() (api.Counters, api.Errno) {
	if _, e := f.begin(false); e != api.OK {
		return api.Counters{}, e
	}
	return f.flows.Total(), api.OK
}

// Snapshot is all that can be told.
func (f *Fair) Snapshot() (api.Snapshot, api.Errno) {
	t, e := f.begin(false)
	if e != api.OK {
		return api.Snapshot{}, e
	}
	flows, shares := f.tell(t)
	now, busy := f.link.Now()
	return api.Snapshot{
		Time: t, Total: f.flows.Total(), Flows: flows,
		Busy: busy, Now: now.Packet, Until: now.Left,
		Gauge: f.sent.Tell(t, shares), Delays: f.sent.Delays(),
	}, api.OK
}

// tell is each open flow, and what it sent by its weight.
func (f *Fair) tell(t int) ([]api.Flow, []rat.Rat) {
	var flows []api.Flow
	var shares []rat.Rat
	for x := range f.flows.All(t) {
		r := f.records[x.Handle]
		x.Delays, x.Late = r.delays.Delays(), r.late
		flows = append(flows, x)
		share, _ := rat.Of(x.Counters.Departed.Bytes, x.Params.Weight)
		shares = append(shares, share)
	}
	return flows, shares
}

// Due is when the next thing happens.
func (f *Fair) Due() (int, bool, api.Errno) {
	if _, e := f.begin(false); e != api.OK {
		return 0, false, e
	}
	t, ok := f.link.Due()
	return t, ok, api.OK
}

// Wait is the tick from which on a flow has tokens for a packet.
func (f *Fair) Wait(h api.Handle, size int) (int, api.Errno) {
	t, e := f.begin(false)
	if e != api.OK {
		return 0, e
	}
	return f.flows.Wait(h, size, t)
}
