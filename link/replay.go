package link

import "millrace/api"

// Replay is what began and what left up to t.
func (l *Link) Replay(t int, poll bool) ([]api.Packet, []api.Departure) {
	l.time = max(l.time, min(t, api.MaxTime))
	var began []api.Packet
	var left []api.Departure
	leave := func() bool {
		d, ok := l.leave()
		if ok {
			left = append(left, d)
		}
		return ok
	}
	begin := func() bool {
		p, ok := l.begin(poll)
		if ok {
			began = append(began, p)
		}
		return ok
	}
	for leave() || begin() {
	}
	return began, left
}

// leave lets the packet on the link leave, if its time has come.
func (l *Link) leave() (api.Departure, bool) {
	if !l.busy || l.now.Left > l.time {
		return api.Departure{}, false
	}
	d := l.now
	l.busy, l.now = false, api.Departure{}
	l.free = d.Left
	l.bytes -= d.Size
	return d, true
}

// begin lets the next packet begin, if there is one and its time has come. At the tick of the call itself only a Poll chooses: else more may still come.
func (l *Link) begin(poll bool) (api.Packet, bool) {
	at, ok := l.next()
	if !ok || at >= l.time && !poll {
		return api.Packet{}, false
	}
	p, ok := l.queue.Next(at)
	if !ok {
		return api.Packet{}, false
	}
	l.busy, l.now = true, api.Departure{Packet: p, Began: at, Left: at + p.Size}
	return p, true
}

// next is when the next packet begins; false, if the link is not free or nothing is queued.
func (l *Link) next() (int, bool) {
	if l.busy || l.queue.Len() == 0 {
		return 0, false
	}
	return max(l.free, l.filled), true
}

// Due is when the next thing happens.
func (l *Link) Due() (int, bool) {
	if l.busy {
		return l.now.Left, true
	}
	return l.next()
}
