package fluid

import (
	"sort"

	"millrace/api"
	"millrace/rat"
)

// stretch is where V goes on at one pace: from a moment and a V on, by 1 / weight a tick.
type stretch struct {
	from, virtual rat.Rat
	weight        int
}

// virtualAt is V at a moment of the stretch.
func (s stretch) virtualAt(moment rat.Rat) rat.Rat {
	ticks, _ := moment.Sub(s.from)
	grown, _ := ticks.DivInt(s.weight)
	return s.virtual.Add(grown)
}

// reaches is the moment of the stretch at which V is so much.
func (s stretch) reaches(virtual rat.Rat) rat.Rat {
	grown, _ := virtual.Sub(s.virtual)
	ticks, _ := grown.MulInt(s.weight)
	return s.from.Add(ticks)
}

// course is what the fluid does in a busy time: the tags of the packets that come in it, and the stretches that V goes through.
type course struct {
	tags      []rat.Rat
	stretches []stretch
}

// follow is the course of a busy time, of all packets that come in it.
func follow(packets []api.Item) course {
	r := begin(packets)
	for e := r.next(); e != nil; e = r.next() {
		r.happen(e)
	}
	return r.course
}

// finishes are the moments at which V reaches the packets' tags.
func (c course) finishes() []rat.Rat {
	l := make([]rat.Rat, len(c.tags))
	for i, tag := range c.tags {
		l[i] = c.before(func(s stretch) bool { return s.virtual.Cmp(tag) >= 0 }).reaches(tag)
	}
	return l
}

// above is how far a packet's tag is above V at a tick of the busy time, behind the first packet's; 0, if V is past it.
func (c course) above(place, t int) rat.Rat {
	tick, _ := rat.Of(t, 1)
	virtual := c.before(func(s stretch) bool { return s.from.Cmp(tick) >= 0 }).virtualAt(tick)
	far, _ := c.tags[place].Sub(virtual)
	return far
}

// before is the last stretch ahead of the first one that is beyond. The first stretch of all never is: V is 0 there, and it begins as the first packet comes.
func (c course) before(beyond func(stretch) bool) stretch {
	n := sort.Search(len(c.stretches), func(i int) bool { return beyond(c.stretches[i]) })
	return c.stretches[n-1]
}
