package fair

import "millrace/api"

// begin is what each call does first: it asks the clock, and makes up for what the link did meanwhile. It tells the effective time.
func (f *Fair) begin(poll bool) (int, api.Errno) {
	t, e := f.time.At(f.clock.Now())
	if e != api.OK {
		return 0, e
	}
	f.replay(t, poll)
	return t, api.OK
}

// replay lets happen what happens up to t. What the link tells in two lists happened by turns: what begins finds that the one ahead of it has left.
func (f *Fair) replay(t int, poll bool) {
	began, left := f.link.Replay(t, poll)
	for _, p := range began {
		if f.flows.Total().Sending.Packets > 0 {
			f.depart(left[0])
			left = left[1:]
		}
		f.flows.Begin(p.Flow)
	}
	for _, d := range left {
		f.depart(d)
	}
}

// depart counts the one on the link as gone, and keeps it till a Poll tells it.
func (f *Fair) depart(d api.Departure) {
	f.flows.Left()
	f.sent.Add(d.Left-d.Came, d.Size)
	// Its flow may have been closed meanwhile.
	if r, ok := f.records[d.Flow]; ok {
		r.keep(d)
	}
	f.untold = append(f.untold, d)
}

// Enqueue hands a packet in: its number, and what was evicted for it.
func (f *Fair) Enqueue(h api.Handle, id, size int) (int, []api.Packet, api.Errno) {
	t, e := f.begin(false)
	if e != api.OK {
		return 0, nil, e
	}
	p := api.Packet{Flow: h, ID: id, Size: size, Seq: f.flows.Seq() + 1, Came: t}
	evicted, e := f.offer(p)
	if e != api.OK {
		return 0, nil, e
	}
	return p.Seq, evicted, api.OK
}

// offer hands a packet to all who may refuse it. Wherever it ends, the books are told how.
func (f *Fair) offer(p api.Packet) (evicted []api.Packet, e api.Errno) {
	defer func() { f.count(p, evicted, e) }()
	if e = f.flows.Look(p.Flow, p.Size, p.Came); e != api.OK {
		return nil, e
	}
	return f.link.Offer(p)
}

// count counts up what became of a packet, and of those that went for it.
func (f *Fair) count(p api.Packet, evicted []api.Packet, e api.Errno) {
	if e != api.OK {
		// The table counts none that has no flow, or whose size may not be: that one was never offered.
		f.flows.Refuse(p.Flow, p.Size)
		return
	}
	for _, victim := range evicted {
		f.flows.Evict(victim.Flow)
	}
	f.flows.Admit(p.Flow, p.ID, p.Size, p.Came)
}
