package fair_test

import (
	"fmt"
	"math"
	"testing"

	"millrace/api"
	"millrace/clock"
	"millrace/fair"
)

// noise gives the same words in every run.
type noise uint64

func (n *noise) word() uint64 {
	*n += 0x9e3779b97f4a7c15
	z := uint64(*n)
	z = (z ^ z>>30) * 0xbf58476d1ce4e5b9
	z = (z ^ z>>27) * 0x94d049bb133111eb
	return z ^ z>>31
}

func (n *noise) below(bound int) int { return int(n.word() % uint64(bound)) }

// one is one of a list, which must not be empty.
func one[T any](n *noise, l []T) T { return l[n.below(len(l))] }

// kinds are all kinds of disciplines.
var kinds = []int{api.WFQ, api.DRR, api.EDF, api.AGE, api.WF2, api.TREE}

// anyConf is a set-up of a kind, with a small buffer.
func anyConf(n *noise, kind int) api.Conf {
	c := api.Conf{Kind: kind, Most: 5 + n.below(30), Cap: 12 + n.below(12), Flows: 2 + n.below(4)}
	c.Room = c.Most + n.below(60)
	switch kind {
	case api.AGE:
		c.Age = n.below(20)
	case api.TREE:
		c.Nodes = anyTree(n)
	}
	return c
}

// anyTree has a leaf of each kind, and some below a node that is not the root.
func anyTree(n *noise) []api.Node {
	nodes := []api.Node{{Kind: api.TREE}, {Kind: api.TREE, Quantum: 1 + n.below(20)}}
	for i := range 5 {
		x := api.Node{Kind: i + 1, Parent: n.below(2), Quantum: 1 + n.below(20)}
		if x.Kind == api.AGE {
			x.Age = n.below(20)
		}
		nodes = append(nodes, x)
	}
	return append(nodes, api.Node{Kind: api.DRR, Parent: 1, Quantum: 1})
}

// leafOf is where a flow of these parameters belongs.
func leafOf(c api.Conf, p api.Params) api.Node {
	if c.Kind == api.TREE {
		return c.Nodes[p.Node]
	}
	return api.Node{Kind: c.Kind, Age: c.Age}
}

// anyParams are a flow's, which may be.
func anyParams(n *noise, c api.Conf) api.Params {
	p := api.Params{Weight: 1 + n.below(6), Burst: 1 + n.below(one(n, []int{20, 100, 1000}))}
	p.Rate, p.Per = one(n, []float64{0, 0.1, 1, 1.5, 7, 20}), 1+n.below(one(n, []int{1, 10}))
	if c.Kind == api.TREE {
		p.Node = 2 + n.below(len(c.Nodes)-2)
	}
	switch leafOf(c, p).Kind {
	case api.DRR:
		p.Quantum = 1 + n.below(30)
	case api.EDF:
		p.Span = n.below(80)
	case api.AGE:
		p.Class = n.below(5)
	}
	return p
}

// rich is a flow that nearly always has tokens.
func rich(p api.Params) api.Params {
	p.Burst, p.Rate, p.Per = 1<<20, 100, 1
	return p
}

// spoilt are parameters of which one thing is perhaps wrong.
func spoilt(n *noise, p api.Params) api.Params {
	switch n.below(30) {
	case 0:
		p.Weight = one(n, []int{0, -1, 30, math.MaxInt})
	case 1:
		p.Quantum = one(n, []int{0, -1, 1, 1<<30 + 1})
	case 2:
		p.Class = one(n, []int{1, -1, 16})
	case 3:
		p.Span = one(n, []int{1, -1, 1<<40 + 1})
	case 4:
		p.Burst = one(n, []int{0, -1, 1<<40 + 1})
	case 5:
		p.Rate = one(n, []float64{-1, math.NaN(), math.Inf(1), 1<<20 + 1})
	case 6:
		p.Per = one(n, []int{0, -1, 1<<30 + 1})
	case 7:
		p.Node = one(n, []int{-1, 0, 1, 3, 99})
	}
	return p
}

// begun is a scheduler of a set-up that may be, and its clock.
func begun(t *testing.T, c api.Conf) (*fair.Fair, *clock.Fake) {
	t.Helper()
	k := clock.NewFake(0)
	f, e := fair.New(c, k)
	if f == nil || e != api.OK {
		t.Fatalf("New(%+v): %v %v", c, f, e)
	}
	return f, k
}

// all is what a call answered, as a text: lists that are nil and lists that are empty are alike.
func all(l ...any) string { return fmt.Sprintf("%+v", l) }

// same asks for what a call is to answer.
func same(t *testing.T, what, got, want string) {
	t.Helper()
	if got != want {
		t.Fatalf("%s:\n%s\nwant\n%s", what, got, want)
	}
}

// pair is a scheduler and its model, which are asked the same.
type pair struct {
	t       *testing.T
	n       *noise
	f       *fair.Fair
	k       *clock.Fake
	m       *model
	reading int
	handles []api.Handle // all that were ever given
	gone    []api.Packet // all that was evicted for another
}

func pairOf(t *testing.T, n *noise, c api.Conf) *pair {
	t.Helper()
	f, k := begun(t, c)
	return &pair{t: t, n: n, f: f, k: k, m: modelOf(c), handles: []api.Handle{{}, {Slot: 9, Gen: 1}, {Slot: -1, Gen: 1}}}
}

// reads sets the clock.
func (x *pair) reads(t int) { x.reading = t; x.k.Set(t) }

func (x *pair) same(what, got, want string) {
	x.t.Helper()
	same(x.t, fmt.Sprintf("%s at the reading %d, the set-up being %+v", what, x.reading, x.m.conf), got, want)
}

func (x *pair) open(p api.Params) api.Errno {
	x.t.Helper()
	h, e := x.f.Open(p)
	want, wantE := api.Handle{}, x.m.begins(x.reading, false)
	if wantE == api.OK {
		want, wantE = x.m.open(p)
	}
	x.same(fmt.Sprintf("Open(%+v)", p), all(h, e), all(want, wantE))
	if e == api.OK {
		x.handles = append(x.handles, h)
	}
	return e
}

func (x *pair) close(h api.Handle) api.Errno {
	x.t.Helper()
	l, c, e := x.f.Close(h)
	var want []api.Packet
	var wantC api.Counters
	wantE := x.m.begins(x.reading, false)
	if wantE == api.OK {
		want, wantC, wantE = x.m.close(h)
	}
	x.same(fmt.Sprintf("Close(%v)", h), all(l, c, e), all(want, wantC, wantE))
	return e
}

func (x *pair) enqueue(h api.Handle, id, size int) api.Errno {
	x.t.Helper()
	seq, gone, e := x.f.Enqueue(h, id, size)
	want, wantGone := 0, []api.Packet(nil)
	wantE := x.m.begins(x.reading, false)
	if wantE == api.OK {
		want, wantGone, wantE = x.m.enqueue(h, id, size)
	}
	x.same(fmt.Sprintf("Enqueue(%v, %d, %d)", h, id, size), all(seq, gone, e), all(want, wantGone, wantE))
	x.gone = append(x.gone, gone...)
	return e
}

func (x *pair) poll() {
	x.t.Helper()
	l, e := x.f.Poll()
	var want []api.Departure
	wantE := x.m.begins(x.reading, true)
	if wantE == api.OK {
		want = x.m.poll()
	}
	x.same("Poll()", all(l, e), all(want, wantE))
}

func (x *pair) stats(h api.Handle) {
	x.t.Helper()
	c, e := x.f.Stats(h)
	want, wantE := api.Counters{}, x.m.begins(x.reading, false)
	if wantE == api.OK {
		want, wantE = x.m.stats(h)
	}
	x.same(fmt.Sprintf("Stats(%v)", h), all(c, e), all(want, wantE))
}

func (x *pair) wait(h api.Handle, size int) {
	x.t.Helper()
	at, e := x.f.Wait(h, size)
	want, wantE := 0, x.m.begins(x.reading, false)
	if wantE == api.OK {
		want, wantE = x.m.wait(h, size)
	}
	x.same(fmt.Sprintf("Wait(%v, %d)", h, size), all(at, e), all(want, wantE))
}

// tells asks for all that is told of no flow alone.
func (x *pair) tells() {
	x.t.Helper()
	total, e1 := x.f.Total()
	s, e2 := x.f.Snapshot()
	at, ok, e3 := x.f.Due()
	wantE := x.m.begins(x.reading, false)
	if wantE != api.OK {
		x.same("Total(), Snapshot(), Due()", all(total, e1, s, e2, at, ok, e3), all(api.Counters{}, wantE, api.Snapshot{}, wantE, 0, false, wantE))
		return
	}
	x.same("Total()", all(total, e1), all(x.m.total(), api.OK))
	x.same("Snapshot()", all(s, e2), all(x.m.snapshot(), api.OK))
	want, wantOk := x.m.due()
	x.same("Due()", all(at, ok, e3), all(want, wantOk, api.OK))
}

// handle is often that of an open flow.
func (x *pair) handle() api.Handle {
	if open := x.m.opened(); len(open) > 0 && x.n.below(20) > 0 {
		return one(x.n, open)
	}
	return one(x.n, x.handles)
}

// goesOn moves the clock, mostly by little and at times back.
func (x *pair) goesOn(ticks int) {
	switch x.n.below(12) {
	case 0:
		x.reads(one(x.n, []int{math.MinInt, -1, 0, x.m.time - 1, x.m.time / 2}))
	case 1:
		x.reads(x.m.time + x.n.below(10*ticks))
	case 2, 3, 4, 5:
		x.reads(x.m.time)
	default:
		x.reads(x.m.time + x.n.below(ticks))
	}
}

// step makes a random call, perhaps for a flow of these parameters, and tells its error.
func (x *pair) step(p api.Params) api.Errno {
	x.t.Helper()
	switch call := x.n.below(40); {
	case call < 3:
		return x.open(spoilt(x.n, p))
	case call == 3 && x.n.below(2) == 0:
		return x.close(x.handle())
	case call < 24:
		size := 1 + x.n.below(x.m.conf.Most)
		if x.n.below(25) == 0 {
			size = one(x.n, []int{0, -1, x.m.conf.Most, x.m.conf.Most + 1, math.MaxInt, math.MinInt})
		}
		return x.enqueue(x.handle(), int(x.n.word()), size)
	case call < 31:
		x.poll()
	case call < 34:
		x.stats(x.handle())
	case call < 37:
		x.wait(x.handle(), 1+x.n.below(x.m.conf.Most+1))
	default:
		x.tells()
	}
	return api.OK
}

// W1: long random uses of each kind, held against the model call by call. In every second one the buffer is mostly full.
func TestAgainstTheModel(t *testing.T) {
	n := noise(1901)
	got := map[api.Errno]int{}
	for _, kind := range kinds {
		for round := range 24 {
			x := pairOf(t, &n, anyConf(&n, kind))
			ticks := 10 + round%4*12
			params := func() api.Params { return anyParams(&n, x.m.conf) }
			if round%2 == 0 {
				ticks, params = 8, func() api.Params { return rich(anyParams(&n, x.m.conf)) }
			}
			for range 3 {
				got[x.open(params())]++
			}
			for range 300 {
				x.goesOn(ticks)
				got[x.step(params())]++
				if n.below(4) == 0 {
					x.tells()
				}
			}
			x.reads(x.m.time + 2*x.m.conf.Room)
			x.poll()
			x.tells()
			got[-1] += len(x.gone)
		}
	}
	for e, least := range map[api.Errno]int{api.OK: 9000, api.ErrRefused: 1000, api.ErrPoliced: 1000, api.ErrHandle: 100, api.ErrSize: 100, api.ErrFull: 300, api.ErrCrowded: 100, -1: 500} {
		if got[e] < least {
			t.Errorf("only %d of %v (-1: evicted)", got[e], e)
		}
	}
}
