package fair_test

import (
	"math/big"
	"slices"
	"testing"

	"millrace/api"
	"millrace/clock"
	"millrace/fair"
	"millrace/rat"
)

// What a step is: a packet that begins, comes, or is evicted, or a flow that is opened or closed.
const (
	begins = iota
	comes
	goes
	flows
)

// step is one of those, and the packet, if it is of one.
type step struct {
	what   int
	packet api.Packet
}

// watch is a scheduler, and a record of what it was handed, of what it answered, and of what happened in which order.
type watch struct {
	t       *testing.T
	n       *noise
	f       *fair.Fair
	k       *clock.Fake
	conf    api.Conf
	now     int
	open    []api.Handle
	params  map[api.Handle]api.Params
	order   map[api.Handle]int // which flow it is: no two are the same one, also in one slot
	came    []api.Packet       // what was admitted, by numbers
	lost    map[int]bool       // what was evicted, by numbers
	pushed  int                // how many of those by other packets
	full    int                // how many were refused for want of room
	left    []api.Departure
	toldAt  map[int]int // the effective time of the Poll that told a departure
	polls   []int       // their effective times
	steps   []step
	started int // how many packets began

	closing bool // whether flows come and go
	draw    func() api.Params
	offered func(before api.Snapshot, p api.Packet, gone []api.Packet, e api.Errno) // behind each that had tokens
}

func watchOf(t *testing.T, n *noise, c api.Conf) *watch {
	t.Helper()
	f, k := begun(t, c)
	x := &watch{t: t, n: n, f: f, k: k, conf: c, closing: true}
	x.params, x.order, x.lost, x.toldAt = map[api.Handle]api.Params{}, map[api.Handle]int{}, map[int]bool{}, map[int]int{}
	x.draw = func() api.Params { return rich(anyParams(n, c)) }
	x.offered = func(api.Snapshot, api.Packet, []api.Packet, api.Errno) {}
	return x
}

// ticks lets time go by.
func (x *watch) ticks(n int) {
	x.now += n
	x.k.Set(x.now)
}

// began writes down what began up to a call, which is ahead of all else that the call did. Which packets these are is known when they have left.
func (x *watch) began() {
	x.t.Helper()
	c, e := x.f.Total()
	is(x.t, "Total", e, api.OK)
	for ; x.started < c.Departed.Packets+c.Sending.Packets; x.started++ {
		x.steps = append(x.steps, step{what: begins})
	}
}

func (x *watch) opens() {
	x.t.Helper()
	p := x.draw()
	x.began()
	h, e := x.f.Open(p)
	if e == api.ErrCrowded || e == api.ErrFull {
		return
	}
	is(x.t, "Open", e, api.OK)
	x.began()
	x.open, x.params[h], x.order[h] = append(x.open, h), p, len(x.order)
	x.steps = append(x.steps, step{what: flows})
}

func (x *watch) closes() {
	x.t.Helper()
	if len(x.open) == 0 {
		return
	}
	k := x.n.below(len(x.open))
	l, _, e := x.f.Close(x.open[k])
	is(x.t, "Close", e, api.OK)
	x.open = slices.Delete(x.open, k, k+1)
	x.began()
	x.loses(l)
	x.steps = append(x.steps, step{what: flows})
}

func (x *watch) loses(l []api.Packet) {
	for _, p := range l {
		x.lost[p.Seq] = true
		x.steps = append(x.steps, step{goes, p})
	}
}

func (x *watch) sends() {
	x.t.Helper()
	if len(x.open) == 0 {
		return
	}
	h, size := one(x.n, x.open), 1+x.n.below(x.conf.Most)
	before, e := x.f.Snapshot()
	is(x.t, "Snapshot", e, api.OK)
	seq, gone, e := x.f.Enqueue(h, x.n.below(9), size)
	x.began()
	if e == api.ErrPoliced {
		return
	}
	p := api.Packet{Flow: h, Size: size, Seq: len(x.came) + 1, Came: before.Time}
	x.offered(before, p, gone, e)
	if e == api.ErrRefused {
		x.full++
		return
	}
	if e != api.OK || seq != p.Seq {
		x.t.Fatalf("Enqueue of %v: %d %v", p, seq, e)
	}
	x.pushed += len(gone)
	x.loses(gone)
	x.came, x.steps = append(x.came, p), append(x.steps, step{comes, p})
}

func (x *watch) asks() {
	x.t.Helper()
	l, e := x.f.Poll()
	is(x.t, "Poll", e, api.OK)
	x.began()
	for _, d := range l {
		d.ID = 0 // which is carried along, and no law speaks of it
		x.left = append(x.left, d)
		x.toldAt[d.Seq] = x.now
	}
	x.polls = append(x.polls, x.now)
}

// run lets things happen for so many steps, and then all that is queued be sent.
func (x *watch) run(steps int) {
	x.t.Helper()
	pace := 1 + x.n.below(x.conf.Most)
	for range 4 {
		x.opens()
	}
	x.ticks(1)
	for range steps {
		switch call := x.n.below(40); {
		case call == 0 && x.closing:
			x.closes()
			x.opens()
		case call < 22:
			x.sends()
		case call < 30:
			x.asks()
		default:
			x.ticks(x.n.below(pace))
		}
	}
	x.ticks(2 * x.conf.Room)
	x.asks()
	x.resolves()
}

// resolves finds which packets began: those that left, in their order.
func (x *watch) resolves() {
	x.t.Helper()
	k := 0
	for i := range x.steps {
		if x.steps[i].what == begins {
			x.steps[i].packet = x.left[k].Packet
			k++
		}
	}
	if k != len(x.left) || len(x.left)+len(x.lost) != len(x.came) {
		x.t.Fatalf("%d came, %d were lost, %d began, %d left", len(x.came), len(x.lost), k, len(x.left))
	}
}

// watched makes schedulers of some kinds run, every second one with a room that is never full and flows that stay, if they are handed in so.
func watched(t *testing.T, seed uint64, kinds []int, rounds, steps int, test func(x *watch, round int) func()) {
	t.Helper()
	n := noise(seed)
	for _, kind := range kinds {
		for round := range rounds {
			c := anyConf(&n, kind)
			if round%2 == 1 {
				c.Room = 1 << 20
			}
			x := watchOf(t, &n, c)
			x.closing = round%2 == 0
			behind := test(x, round)
			x.run(steps)
			behind()
		}
	}
}

// exact is a fraction as the library's.
func exact(r rat.Rat) *big.Rat {
	p, q := r.Parts()
	x, _ := new(big.Rat).SetString(p.Text() + "/" + q.Text())
	return x
}

// history is what a fluid is fed: all that was admitted, and perhaps more.
func (x *watch) history(l ...api.Packet) []api.Item {
	var items []api.Item
	for _, p := range append(slices.Clone(x.came), l...) {
		items = append(items, api.Item{Flow: x.order[p.Flow], Weight: x.params[p.Flow].Weight, Size: p.Size, Came: p.Came})
	}
	return items
}

// queues are all queues of a snapshot together.
func queues(s api.Snapshot) []api.Packet {
	var l []api.Packet
	for _, f := range s.Flows {
		l = append(l, f.Queue...)
	}
	for i := range l {
		l[i].ID = 0
	}
	return l
}

func sizes(l []api.Packet) int {
	n := 0
	for _, p := range l {
		n += p.Size
	}
	return n
}
