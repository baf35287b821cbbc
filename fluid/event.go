package fluid

import (
	"container/heap"

	"millrace/api"
	"millrace/rat"
)

// event is what happens next: a packet comes, or a flow is done. Between two events V goes on at one pace.
type event interface{ moment() rat.Rat }

// comes is a packet that comes.
type comes struct{ packet api.Item }

func (c comes) moment() rat.Rat {
	tick, _ := rat.Of(c.packet.Came, 1)
	return tick
}

// done is a flow of which all that came is served.
type done struct {
	flow *fed
	at   rat.Rat
}

func (d done) moment() rat.Rat { return d.at }

// run is the fluid on its way through a busy time.
type run struct {
	coming []api.Item // what did not come yet
	flows  map[int]*fed
	lasts  byTag
	course
}

// begin is the fluid ahead of the first packet, which must be there: that one finds a stretch of no ticks.
func begin(packets []api.Item) *run {
	start := stretch{from: comes{packets[0]}.moment()}
	return &run{
		coming: packets,
		flows:  make(map[int]*fed),
		course: course{stretches: []stretch{start}},
	}
}

// next is what happens next; nil, if nothing does any more.
func (r *run) next() event {
	switch {
	case len(r.lasts) == 0 && len(r.coming) == 0:
		return nil
	case len(r.lasts) == 0:
		return comes{r.coming[0]}
	case len(r.coming) == 0:
		return r.nextDone()
	}
	return earlier(r.nextDone(), comes{r.coming[0]})
}

// nextDone is the flow that is done first, if nothing comes; there must be one.
func (r *run) nextDone() done {
	first := r.lasts[0]
	return done{first, r.now().reaches(first.last)}
}

// earlier is the one that happens first; a, if they happen at one moment.
func earlier(a, b event) event {
	if b.moment().Cmp(a.moment()) < 0 {
		return b
	}
	return a
}

// now is the stretch that V is in.
func (r *run) now() stretch { return r.stretches[len(r.stretches)-1] }

// happen lets an event happen, which is the next one.
func (r *run) happen(e event) {
	switch x := e.(type) {
	case comes:
		r.coming = r.coming[1:]
		r.take(x.packet)
	case done:
		r.drop(x)
	}
}

// take gives a packet that comes its tag. Of a flow that is fed it changes no pace, and V is not asked for.
func (r *run) take(p api.Item) {
	length, _ := rat.Of(p.Size, p.Weight)
	f, ok := r.flows[p.Flow]
	if ok {
		f.last = f.last.Add(length)
		heap.Fix(&r.lasts, f.place)
	} else {
		virtual := r.feed(p)
		f = &fed{flow: p.Flow, weight: p.Weight, last: virtual.Add(length)}
		r.flows[p.Flow] = f
		heap.Push(&r.lasts, f)
	}
	r.tags = append(r.tags, f.last)
}

// feed lets V go on at the pace with one flow more, the packet's, and tells V.
func (r *run) feed(p api.Item) rat.Rat {
	came, now := comes{p}.moment(), r.now()
	virtual := now.virtualAt(came)
	r.stretches = append(r.stretches, stretch{came, virtual, now.weight + p.Weight})
	return virtual
}

// drop lets V go on at the pace without the flow that is done.
func (r *run) drop(d done) {
	heap.Pop(&r.lasts)
	delete(r.flows, d.flow.flow)
	r.stretches = append(r.stretches, stretch{d.at, d.flow.last, r.now().weight - d.flow.weight})
}

// fed is a flow that has something there that is not served yet: its last tag, and its place in the heap.
type fed struct {
	flow, weight int
	last         rat.Rat
	place        int
}

// byTag is the flows that are fed, as a heap by their last tags: the first one is done first.
type byTag []*fed

func (b byTag) Len() int { return len(b) }

func (b byTag) Less(i, j int) bool { return b[i].last.Cmp(b[j].last) < 0 }

func (b byTag) Swap(i, j int) {
	b[i], b[j] = b[j], b[i]
	b[i].place, b[j].place = i, j
}

// Push lays a flow in, at the end.
func (b *byTag) Push(x any) {
	f := x.(*fed)
	f.place = len(*b)
	*b = append(*b, f)
}

// Pop takes the one at the end out.
func (b *byTag) Pop() any {
	end := len(*b) - 1
	f := (*b)[end]
	*b = (*b)[:end]
	return f
}
