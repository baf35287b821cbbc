package due

import (
	"millrace/api"
	"millrace/disc"
)

// ticked is what both disciplines have: the keyed base by ticks, and how many ticks behind its coming a packet of a flow stands there. That stays as it is while the flow is open, so of one flow no packet goes by a lesser tick than the one ahead of it, and the base refuses none for its key.
type ticked struct {
	*disc.Keyed[disc.Tick]
	behind func(api.Params) int
}

func newTicked(behind func(api.Params) int) ticked {
	return ticked{disc.NewKeyed[disc.Tick](), behind}
}

// tick is the one that a packet goes by.
func (q *ticked) tick(p api.Packet) (int, api.Errno) {
	flow, e := q.Params(p.Flow)
	if e != api.OK {
		return 0, e
	}
	if p.Came < 0 || p.Came > api.MaxTime {
		return 0, api.ErrArg
	}
	return p.Came + q.behind(flow), api.OK
}

// First is the tick of the next one.
func (q *ticked) First() (int, bool) {
	// The base chooses by no time, so any tick will do.
	p, ok := q.Peek(0)
	if !ok {
		return 0, false
	}
	first, _ := q.tick(p)
	return first, true
}

// Admit queues a packet.
func (q *ticked) Admit(p api.Packet) api.Errno {
	k, e := q.tick(p)
	if e != api.OK {
		return e
	}
	return q.Put(p, disc.Tick(k))
}

// Plan is who would go for a packet.
func (q *ticked) Plan(p api.Packet, need int) ([]api.Packet, api.Errno) {
	k, e := q.tick(p)
	if e != api.OK {
		return nil, e
	}
	return q.Spare(p, disc.Tick(k), need)
}
