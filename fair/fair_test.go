package fair_test

import (
	"math"
	"slices"
	"testing"

	"millrace/api"
	"millrace/clock"
	"millrace/fair"
)

// confOf is a set-up of a kind, as in the chapter's examples.
func confOf(kind int) api.Conf {
	c := api.Conf{Kind: kind, Room: 100, Most: 50, Cap: 10, Flows: 2}
	switch kind {
	case api.AGE:
		c.Age = 10
	case api.TREE:
		c.Nodes = []api.Node{{Kind: api.TREE}, {Kind: api.AGE, Quantum: 10, Age: 10}, {Kind: api.EDF, Quantum: 30}, {Kind: api.WFQ, Quantum: 20}}
	}
	return c
}

// plain is a flow of a kind's that has many tokens.
func plain(kind int) api.Params {
	p := api.Params{Weight: 1, Burst: 1000, Rate: 1000, Per: 1}
	switch kind {
	case api.DRR:
		p.Quantum = 10
	case api.TREE:
		p.Node = 1
	}
	return p
}

func handle(slot, generation int) api.Handle { return api.Handle{Slot: slot, Gen: generation} }

func count(packets, bytes int) api.Count { return api.Count{Packets: packets, Bytes: bytes} }

// opens opens a flow, which must be given.
func opens(t *testing.T, f *fair.Fair, p api.Params) api.Handle {
	t.Helper()
	h, e := f.Open(p)
	is(t, "Open", e, api.OK)
	return h
}

// takes hands a packet in that must be taken, and tells who went for it.
func takes(t *testing.T, f *fair.Fair, h api.Handle, id, size int) []api.Packet {
	t.Helper()
	seq, gone, e := f.Enqueue(h, id, size)
	if seq < 1 || e != api.OK {
		t.Fatalf("Enqueue(%v, %d, %d): %d %v %v", h, id, size, seq, gone, e)
	}
	return gone
}

// refuses hands a packet in that must not be taken.
func refuses(t *testing.T, f *fair.Fair, h api.Handle, size int, want api.Errno) {
	t.Helper()
	seq, gone, e := f.Enqueue(h, 7, size)
	if seq != 0 || len(gone) > 0 || e != want {
		t.Fatalf("Enqueue(%v, 7, %d): %d %v %v, want %v", h, size, seq, gone, e, want)
	}
}

// polls asks a Poll for these departures.
func polls(t *testing.T, f *fair.Fair, want ...api.Departure) {
	t.Helper()
	l, e := f.Poll()
	if !slices.Equal(l, want) || e != api.OK {
		t.Fatalf("Poll: %+v %v, want %+v", l, e, want)
	}
}

func is(t *testing.T, what string, got, want api.Errno) {
	t.Helper()
	if got != want {
		t.Fatalf("%s: %v, want %v", what, got, want)
	}
}

// gone is a departure.
func gone(h api.Handle, id, size, seq, came, began int) api.Departure {
	return api.Departure{Packet: api.Packet{Flow: h, ID: id, Size: size, Seq: seq, Came: came}, Began: began, Left: began + size}
}

// The examples
func TestExamples(t *testing.T) {
	f, k := begun(t, confOf(api.AGE))
	p := api.Params{Weight: 1, Burst: 100, Rate: 4, Per: 1}
	a := opens(t, f, p)
	p.Class = 1
	b := opens(t, f, p)
	if a != handle(0, 1) || b != handle(1, 1) {
		t.Fatalf("Open: %v %v", a, b)
	}
	_, e := f.Open(p)
	is(t, "Open of a third", e, api.ErrFull)
	refuses(t, f, a, 10, api.ErrPoliced)
	k.Set(10)
	takes(t, f, b, 1, 30)
	takes(t, f, a, 2, 30)
	polls(t, f)
	k.Set(40)
	polls(t, f, gone(a, 2, 30, 2, 10, 10))
	k.Set(70)
	polls(t, f, gone(b, 1, 30, 1, 10, 40))
	refuses(t, f, a, 51, api.ErrSize)
	refuses(t, f, handle(5, 1), 10, api.ErrHandle)
	k.Set(1<<62 + 1)
	refuses(t, f, a, 10, api.ErrExpired)
	k.Set(80)
	refuses(t, f, a, 10, api.ErrExpired)
}

// 19.1
func TestNewRefuses(t *testing.T) {
	for _, w := range []struct {
		change func(*api.Conf)
		want   api.Errno
	}{
		{func(c *api.Conf) { c.Kind = 0 }, api.ErrKind},
		{func(c *api.Conf) { c.Kind = 7 }, api.ErrKind},
		{func(c *api.Conf) { c.Most = 0 }, api.ErrMost},
		{func(c *api.Conf) { c.Room = 49 }, api.ErrRoom},
		{func(c *api.Conf) { c.Room = 1<<30 + 1 }, api.ErrRoom},
		{func(c *api.Conf) { c.Cap = 4097 }, api.ErrWeight},
		{func(c *api.Conf) { c.Flows = 257 }, api.ErrFlows},
		{func(c *api.Conf) { c.Age = -1 }, api.ErrClass},
		{func(c *api.Conf) { c.Nodes = []api.Node{{Kind: api.TREE}} }, api.ErrArg},
		{func(c *api.Conf) { c.Kind, c.Age = api.TREE, 0 }, api.ErrArg},
		{func(c *api.Conf) { c.Kind, c.Age, c.Nodes = api.TREE, 0, []api.Node{{Kind: api.DRR}} }, api.ErrKind},
	} {
		c := confOf(api.AGE)
		w.change(&c)
		// What is wrong with the set-up comes ahead of no clock.
		for _, k := range []clock.Clock{clock.NewFake(0), nil} {
			if f, e := fair.New(c, k); f != nil || e != w.want {
				t.Errorf("New(%+v, %v): %v %v, want nil and %v", c, k, f, e, w.want)
			}
		}
	}
	for _, kind := range kinds {
		if f, e := fair.New(confOf(kind), nil); f != nil || e != api.ErrClock {
			t.Errorf("New of the kind %d without a clock: %v %v", kind, f, e)
		}
	}
}

// 19.1: a new one has no flow and no books, at the time 0.
func TestNewIsEmpty(t *testing.T) {
	for _, kind := range kinds {
		f, _ := begun(t, confOf(kind))
		s, e := f.Snapshot()
		same(t, "Snapshot", all(s, e), all(api.Snapshot{Gauge: api.Gauge{Fairness: 1}}, api.OK))
		at, ok, e := f.Due()
		same(t, "Due", all(at, ok, e), all(0, false, api.OK))
		polls(t, f)
	}
}

// each calls everything once, with a handle, and tells the errors.
func each(f *fair.Fair, h api.Handle, p api.Params, size int) []api.Errno {
	l := make([]api.Errno, 9)
	_, l[0] = f.Open(p)
	_, _, l[1] = f.Close(h)
	_, _, l[2] = f.Enqueue(h, 0, size)
	_, l[3] = f.Poll()
	_, l[4] = f.Stats(h)
	_, l[5] = f.Total()
	_, l[6] = f.Snapshot()
	_, _, l[7] = f.Due()
	_, l[8] = f.Wait(h, size)
	return l
}

// 19.1: the clock is asked once by each call, whatever is answered, and not by New.
func TestWhoAsksTheClock(t *testing.T) {
	asked, reading := 0, 0
	k := clock.Func(func() int { asked++; return reading })
	f, e := fair.New(confOf(api.AGE), k)
	is(t, "New", e, api.OK)
	if asked != 0 {
		t.Fatalf("New asked %d times", asked)
	}
	for i, r := range []int{0, 5, 3, -1, 1 << 62, 1<<62 + 1, 7} {
		reading = r
		for j := range 9 {
			switch h := handle(i%2, 1); j {
			case 0:
				f.Open(plain(api.AGE))
			case 1:
				f.Enqueue(h, 0, 1)
			case 2:
				f.Poll()
			case 3:
				f.Stats(h)
			case 4:
				f.Total()
			case 5:
				f.Snapshot()
			case 6:
				f.Due()
			case 7:
				f.Wait(h, 1)
			case 8:
				f.Close(handle(5, 5))
			}
			if asked != 9*i+j+1 {
				t.Fatalf("asked %d times by %d calls", asked, 9*i+j+1)
			}
		}
	}
}

// row is a clock of a caller's own, of a type that can't be held against another.
type row struct{ readings []int }

func (r row) Now() int { return len(r.readings) }

// 19.1: any clock will do.
func TestClocks(t *testing.T) {
	for _, k := range []clock.Clock{clock.NewFake(3), clock.NewSteps(3), clock.Func(func() int { return 3 }), row{make([]int, 3)}, &row{make([]int, 3)}} {
		f, e := fair.New(confOf(api.WFQ), k)
		is(t, "New", e, api.OK)
		if s, e := f.Snapshot(); s.Time != 3 || e != api.OK {
			t.Errorf("%v: the time %d, %v", k, s.Time, e)
		}
	}
	f, e := fair.New(confOf(api.WFQ), clock.Func(nil))
	is(t, "New", e, api.OK)
	if s, e := f.Snapshot(); s.Time != 0 || e != api.OK {
		t.Errorf("a nil Func: the time %d, %v", s.Time, e)
	}
}

// 19.1: two have nothing in common but what they are handed.
func TestTwoHaveNothingInCommon(t *testing.T) {
	c, k := confOf(api.TREE), clock.NewFake(0)
	f, e := fair.New(c, k)
	is(t, "New", e, api.OK)
	g, e := fair.New(c, k)
	is(t, "New", e, api.OK)
	h := opens(t, f, plain(api.TREE))
	k.Set(10)
	takes(t, f, h, 1, 30)
	s, e := g.Snapshot()
	same(t, "the other one", all(s, e), all(api.Snapshot{Time: 10, Gauge: api.Gauge{Fairness: 1}}, api.OK))
	refuses(t, g, h, 1, api.ErrHandle)
	if opens(t, g, plain(api.TREE)) != h {
		t.Fatal("the other one's handle is another")
	}
	k.Set(20)
	if seq, _, _ := g.Enqueue(h, 2, 5); seq != 1 {
		t.Fatalf("the other one's first number is %d", seq)
	}
	g.Close(h)
	k.Set(60)
	polls(t, g)
	polls(t, f, gone(h, 1, 30, 1, 10, 10))
}

// 19.1: the set-up's nodes are neither kept nor changed, nor the room behind them.
func TestNodesAreNotKept(t *testing.T) {
	c := confOf(api.TREE)
	nodes := append(slices.Clone(c.Nodes), api.Node{Kind: -1}, api.Node{Kind: -2})
	was := slices.Clone(nodes)
	c.Nodes = nodes[:4]
	f, k := begun(t, c)
	if !slices.Equal(nodes, was) {
		t.Fatalf("the nodes have become %v", nodes)
	}
	clear(nodes)
	p := plain(api.TREE)
	p.Node, p.Span = 2, 5
	h := opens(t, f, p)
	k.Set(1)
	takes(t, f, h, 1, 30)
	k.Set(31)
	if s, e := f.Snapshot(); s.Flows[0].Late != 1 || e != api.OK {
		t.Fatalf("Late behind a change of the nodes: %d %v", s.Flows[0].Late, e)
	}
}

// 19.2: a reading above MaxTime is the end, of every call and for good.
func TestExpired(t *testing.T) {
	for _, kind := range kinds {
		for _, end := range []int{1<<62 + 1, math.MaxInt} {
			f, k := begun(t, confOf(kind))
			h := opens(t, f, plain(kind))
			k.Set(5)
			takes(t, f, h, 1, 50)
			for _, r := range []int{end, 6, 0, 1 << 62, math.MinInt} {
				k.Set(r)
				for i, e := range each(f, h, plain(kind), 10) {
					if e != api.ErrExpired {
						t.Fatalf("call %d at %d: %v", i, r, e)
					}
				}
				bad := plain(kind)
				bad.Weight = 0
				for i, e := range each(f, handle(9, 9), bad, -1) {
					if e != api.ErrExpired {
						t.Fatalf("call %d of what is wrong at %d: %v", i, r, e)
					}
				}
			}
		}
	}
}

// 19.2: beside ErrExpired there is nothing.
func TestExpiredTellsNothing(t *testing.T) {
	f, k := begun(t, confOf(api.AGE))
	h := opens(t, f, plain(api.AGE))
	k.Set(5)
	takes(t, f, h, 1, 50)
	takes(t, f, h, 2, 50)
	k.Set(60)
	f.Total()
	k.Set(1<<62 + 1)
	p, e1 := f.Open(plain(api.AGE))
	q, c, e2 := f.Close(h)
	seq, l, e3 := f.Enqueue(h, 1, 1)
	d, e4 := f.Poll()
	own, e5 := f.Stats(h)
	total, e6 := f.Total()
	s, e7 := f.Snapshot()
	at, ok, e8 := f.Due()
	w, e9 := f.Wait(h, 1)
	none := []api.Packet{}
	same(t, "all calls", all(p, q, c, seq, l, d, own, total, s, at, ok, w), all(handle(0, 0), none, api.Counters{}, 0, none, none, api.Counters{}, api.Counters{}, api.Snapshot{}, 0, false, 0))
	same(t, "their errors", all(e1, e2, e3, e4, e5, e6, e7, e8, e9), all(api.ErrExpired, api.ErrExpired, api.ErrExpired, api.ErrExpired, api.ErrExpired, api.ErrExpired, api.ErrExpired, api.ErrExpired, api.ErrExpired))
}

// 19.2: the last tick is a time as any; what begins there never leaves.
func TestLastTick(t *testing.T) {
	for _, kind := range kinds {
		f, k := begun(t, confOf(kind))
		h := opens(t, f, plain(kind))
		k.Set(1<<62 - 50)
		takes(t, f, h, 1, 50)
		takes(t, f, h, 2, 50)
		k.Set(1 << 62)
		takes(t, f, h, 3, 50)
		polls(t, f, gone(h, 1, 50, 1, 1<<62-50, 1<<62-50))
		s, e := f.Snapshot()
		if s.Time != 1<<62 || !s.Busy || s.Now.ID != 2 || s.Until != 1<<62+50 || e != api.OK {
			t.Fatalf("at the last tick: %+v %v", s, e)
		}
		at, ok, e := f.Due()
		same(t, "Due", all(at, ok, e), all(1<<62+50, true, api.OK))
		polls(t, f)
		if l, _, e := f.Close(h); len(l) != 1 || l[0].ID != 3 || e != api.OK {
			t.Fatalf("Close: %v %v", l, e)
		}
		opens(t, f, plain(kind))
	}
}

// 19.2: readings below 0, and such as go back, are as the greatest ahead of them.
func TestReadingsThatGoBack(t *testing.T) {
	f, k := begun(t, confOf(api.AGE))
	k.Set(-10)
	h := opens(t, f, plain(api.AGE))
	k.Set(math.MinInt)
	if s, _ := f.Snapshot(); s.Time != 0 {
		t.Fatalf("the time of a reading below 0: %d", s.Time)
	}
	k.Set(20)
	takes(t, f, h, 1, 30)
	for _, r := range []int{19, 0, -1, math.MinInt, 20} {
		k.Set(r)
		takes(t, f, h, r, 2)
		if s, _ := f.Snapshot(); s.Time != 20 {
			t.Fatalf("the time of the reading %d behind 20: %d", r, s.Time)
		}
	}
	k.Set(0)
	polls(t, f)
	k.Set(52)
	polls(t, f, gone(h, 1, 30, 1, 20, 20), gone(h, 19, 2, 2, 20, 50))
}

// 19.2: what comes at one tick is all there when that tick's next packet is chosen, but where a Poll of that tick came ahead of it.
func TestOneTick(t *testing.T) {
	for _, first := range []bool{false, true} {
		f, k := begun(t, confOf(api.AGE))
		late := plain(api.AGE)
		late.Class = 5
		b, a := opens(t, f, late), opens(t, f, plain(api.AGE))
		k.Set(10)
		takes(t, f, b, 1, 20)
		if first {
			polls(t, f)
		}
		takes(t, f, a, 2, 20)
		f.Total()
		f.Due()
		f.Snapshot()
		takes(t, f, a, 3, 20)
		polls(t, f)
		k.Set(70)
		if first {
			polls(t, f, gone(b, 1, 20, 1, 10, 10), gone(a, 2, 20, 2, 10, 30), gone(a, 3, 20, 3, 10, 50))
		} else {
			polls(t, f, gone(a, 2, 20, 2, 10, 10), gone(a, 3, 20, 3, 10, 30), gone(b, 1, 20, 1, 10, 50))
		}
	}
}

// 19.3
func TestOpenRefuses(t *testing.T) {
	for _, w := range []struct {
		kind   int
		change func(*api.Params)
		want   api.Errno
	}{
		{api.AGE, func(p *api.Params) { p.Node = 1 }, api.ErrArg},
		{api.TREE, func(p *api.Params) { p.Node = 0 }, api.ErrArg},
		{api.TREE, func(p *api.Params) { p.Node = 4 }, api.ErrArg},
		{api.AGE, func(p *api.Params) { p.Weight = 0 }, api.ErrWeight},
		{api.AGE, func(p *api.Params) { p.Weight = 11 }, api.ErrWeight},
		{api.AGE, func(p *api.Params) { p.Quantum = 1 }, api.ErrQuantum},
		{api.DRR, func(p *api.Params) { p.Quantum = 0 }, api.ErrQuantum},
		{api.AGE, func(p *api.Params) { p.Class = 16 }, api.ErrClass},
		{api.TREE, func(p *api.Params) { p.Node, p.Class = 2, 1 }, api.ErrClass},
		{api.EDF, func(p *api.Params) { p.Span = -1 }, api.ErrSpan},
		{api.WFQ, func(p *api.Params) { p.Span = 1 }, api.ErrSpan},
		{api.WF2, func(p *api.Params) { p.Burst = 0 }, api.ErrBurst},
		{api.AGE, func(p *api.Params) { p.Rate = math.NaN() }, api.ErrRate},
		{api.AGE, func(p *api.Params) { p.Per = 0 }, api.ErrRate},
	} {
		f, _ := begun(t, confOf(w.kind))
		p := plain(w.kind)
		w.change(&p)
		h, e := f.Open(p)
		same(t, "Open", all(h, e), all(handle(0, 0), w.want))
		// It comes ahead of full and crowded, and no generation is gone by it.
		for slot := range 2 {
			q := plain(w.kind)
			q.Weight = 5
			if h := opens(t, f, q); h != handle(slot, 1) {
				t.Fatalf("Open behind one that was refused: %v", h)
			}
		}
		h, e = f.Open(p)
		same(t, "Open where all is full", all(h, e), all(handle(0, 0), w.want))
	}
}

// 19.3: as many flows as the set-up lets, ahead of their weights.
func TestFull(t *testing.T) {
	for _, kind := range kinds {
		for _, flows := range []int{1, 2, 256} {
			c := confOf(kind)
			c.Flows, c.Cap = flows, flows
			f, _ := begun(t, c)
			for slot := range flows {
				if h := opens(t, f, plain(kind)); h != handle(slot, 1) {
					t.Fatalf("Open: %v, want slot %d", h, slot)
				}
			}
			h, e := f.Open(plain(kind))
			same(t, "Open of one more", all(h, e), all(handle(0, 0), api.ErrFull))
			f.Close(handle(flows-1, 1))
			if h := opens(t, f, plain(kind)); h != handle(flows-1, 2) {
				t.Fatalf("Open of a slot that was given: %v", h)
			}
		}
	}
}

// 19.3: the weights of the open flows are at most Cap, just so; of those that were refused nothing is left.
func TestCrowded(t *testing.T) {
	for _, kind := range kinds {
		c := confOf(kind)
		c.Flows = 5
		f, _ := begun(t, c)
		p := plain(kind)
		open := func(weight int, want api.Handle, is api.Errno) {
			t.Helper()
			p.Weight = weight
			h, e := f.Open(p)
			same(t, "Open", all(h, e), all(want, is))
		}
		open(6, handle(0, 1), api.OK)
		open(5, handle(0, 0), api.ErrCrowded)
		open(10, handle(0, 0), api.ErrCrowded)
		open(3, handle(1, 1), api.OK)
		open(2, handle(0, 0), api.ErrCrowded)
		open(1, handle(2, 1), api.OK)
		open(1, handle(0, 0), api.ErrCrowded)
		f.Close(handle(1, 1))
		open(4, handle(0, 0), api.ErrCrowded)
		open(3, handle(1, 2), api.OK)
	}
}

// 19.3: what the fluid has of a closed flow counts, at the effective time of the call; of the other kinds it does not.
func TestCrowdedByTheFluid(t *testing.T) {
	for kind, counts := range map[int]bool{api.WFQ: true, api.WF2: true, api.DRR: false, api.EDF: false, api.AGE: false} {
		f, k := begun(t, confOf(kind))
		p := plain(kind)
		p.Weight = 6
		h := opens(t, f, p)
		k.Set(10)
		takes(t, f, h, 1, 50)
		f.Close(h)
		p.Weight = 5
		for _, tick := range []int{10, 59} {
			k.Set(tick)
			if counts {
				_, e := f.Open(p)
				is(t, "Open", e, api.ErrCrowded)
			}
		}
		k.Set(60)
		opens(t, f, p)
	}
}

// 19.3: in a tree the flows of all leaves count together, and what a leaf's fluid has, by the leaf's own time.
func TestCrowdedInATree(t *testing.T) {
	f, k := begun(t, confOf(api.TREE))
	p := plain(api.TREE)
	p.Weight, p.Node = 6, 3
	h := opens(t, f, p)
	other := plain(api.TREE)
	g := opens(t, f, other)
	k.Set(10)
	takes(t, f, h, 1, 20)
	takes(t, f, h, 2, 20)
	takes(t, f, g, 3, 50)
	other.Weight = 4
	// At 30 its own time is 20, and stands still till 80, when what came of the other leaf has left: its fluid has 20 bytes left then.
	k.Set(30)
	polls(t, f, gone(h, 1, 20, 1, 10, 10))
	f.Close(h)
	_, e := f.Open(other)
	is(t, "Open while the fluid has something", e, api.ErrCrowded)
	k.Set(50)
	opens(t, f, other)
}

// 19.3: the bucket is empty at the tick of Open.
func TestBucketIsEmpty(t *testing.T) {
	f, k := begun(t, confOf(api.AGE))
	k.Set(100)
	p := plain(api.AGE)
	p.Rate, p.Per = 1, 2
	h := opens(t, f, p)
	refuses(t, f, h, 1, api.ErrPoliced)
	k.Set(101)
	refuses(t, f, h, 1, api.ErrPoliced)
	k.Set(102)
	takes(t, f, h, 1, 1)
	refuses(t, f, h, 1, api.ErrPoliced)
	k.Set(110)
	refuses(t, f, h, 5, api.ErrPoliced)
	takes(t, f, h, 1, 4)
}

// 19.4
func TestClose(t *testing.T) {
	for _, kind := range kinds {
		f, k := begun(t, confOf(kind))
		a, b := opens(t, f, plain(kind)), opens(t, f, plain(kind))
		k.Set(10)
		takes(t, f, a, 1, 10)
		takes(t, f, a, 2, 15)
		takes(t, f, b, 3, 20)
		takes(t, f, a, 4, 5)
		refuses(t, f, a, 51, api.ErrSize)
		k.Set(15)
		l, c, e := f.Close(a)
		left := []api.Packet{{Flow: a, ID: 2, Size: 15, Seq: 2, Came: 10}, {Flow: a, ID: 4, Size: 5, Seq: 4, Came: 10}}
		books := api.Counters{Offered: count(3, 30), Evicted: count(2, 20), Sending: count(1, 10)}
		same(t, "Close", all(l, c, e), all(left, books, api.OK))
		l, c, e = f.Close(a)
		same(t, "Close again", all(l, c, e), all([]api.Packet{}, api.Counters{}, api.ErrHandle))
		refuses(t, f, a, 5, api.ErrHandle)
		// What is on the link goes on, and leaves with the old handle; its slot is another's by then.
		if h := opens(t, f, plain(kind)); h != handle(0, 2) {
			t.Fatalf("Open: %v", h)
		}
		k.Set(40)
		polls(t, f, gone(a, 1, 10, 1, 10, 10), gone(b, 3, 20, 3, 10, 20))
		total, e := f.Total()
		same(t, "Total", all(total, e), all(api.Counters{Offered: count(4, 50), Evicted: count(2, 20), Departed: count(2, 30)}, api.OK))
		own, e := f.Stats(handle(0, 2))
		same(t, "Stats of the new one", all(own, e), all(api.Counters{}, api.OK))
	}
}

// 19.4, 19.5, 19.7, 19.9: handles of nothing, with every other thing wrong too, and nothing is counted.
func TestHandlesOfNothing(t *testing.T) {
	f, k := begun(t, confOf(api.AGE))
	opens(t, f, plain(api.AGE))
	f.Close(opens(t, f, plain(api.AGE)))
	k.Set(10)
	for _, h := range []api.Handle{{}, handle(0, 0), handle(0, 2), handle(0, -1), handle(1, 1), handle(1, 2), handle(2, 1), handle(-1, 1), handle(math.MinInt, 1), handle(math.MaxInt, 1), handle(1<<32, 1), handle(0, 1<<32+1), handle(256, 1)} {
		for _, size := range []int{10, 0, -1, 51, math.MaxInt} {
			refuses(t, f, h, size, api.ErrHandle)
			at, e := f.Wait(h, size)
			same(t, "Wait", all(at, e), all(0, api.ErrHandle))
		}
		c, e := f.Stats(h)
		same(t, "Stats", all(c, e), all(api.Counters{}, api.ErrHandle))
		l, c, e := f.Close(h)
		same(t, "Close", all(l, c, e), all([]api.Packet{}, api.Counters{}, api.ErrHandle))
	}
	c, e := f.Total()
	same(t, "Total", all(c, e), all(api.Counters{}, api.OK))
}

// 19.5: sizes that may not be are never offered.
func TestSizes(t *testing.T) {
	for _, most := range []int{1, 50, 65536} {
		c := confOf(api.WFQ)
		c.Most, c.Room = most, 1<<20
		f, k := begun(t, c)
		p := plain(api.WFQ)
		p.Burst, p.Rate = 1<<40, 1<<20
		h := opens(t, f, p)
		for _, size := range []int{0, -1, math.MinInt, most + 1, 1 << 32, math.MaxInt} {
			// Without tokens, and with them.
			refuses(t, f, h, size, api.ErrSize)
			k.Step(1)
			refuses(t, f, h, size, api.ErrSize)
			at, e := f.Wait(h, size)
			same(t, "Wait", all(at, e), all(0, api.ErrSize))
		}
		takes(t, f, h, math.MinInt, 1)
		takes(t, f, h, math.MaxInt, most)
		total, e := f.Total()
		same(t, "Total", all(total, e), all(api.Counters{Offered: count(2, 1+most), Queued: count(2, 1+most)}, api.OK))
	}
}

// 19.5: a packet that is policed is counted, and takes nothing: no number, no tokens, no place. It is policed ahead of what the room would say.
func TestPoliced(t *testing.T) {
	f, k := begun(t, confOf(api.AGE))
	p := plain(api.AGE)
	p.Burst, p.Rate, p.Per = 30, 1, 1
	h, g := opens(t, f, p), opens(t, f, plain(api.AGE))
	k.Set(20)
	refuses(t, f, h, 21, api.ErrPoliced)
	takes(t, f, g, 1, 50)
	takes(t, f, g, 2, 50)
	refuses(t, f, h, 21, api.ErrPoliced)
	refuses(t, f, h, 20, api.ErrRefused)
	c, e := f.Stats(h)
	same(t, "Stats", all(c, e), all(api.Counters{Offered: count(3, 62), Refused: count(3, 62)}, api.OK))
	k.Set(70)
	seq, _, e := f.Enqueue(h, 3, 30)
	same(t, "Enqueue", all(seq, e), all(3, api.OK))
	refuses(t, f, h, 1, api.ErrPoliced)
	k.Set(89)
	refuses(t, f, h, 20, api.ErrPoliced)
	takes(t, f, h, 3, 19)
}

// 19.5: who goes for a packet is told, the worst first; those of a better one stay, and no tokens are given back.
func TestEvicts(t *testing.T) {
	f, k := begun(t, confOf(api.AGE))
	low := plain(api.AGE)
	low.Class, low.Burst, low.Rate = 5, 60, 60
	a, b := opens(t, f, plain(api.AGE)), opens(t, f, low)
	k.Set(1)
	for i, size := range []int{30, 10, 20} {
		takes(t, f, b, i, size)
	}
	k.Set(0)
	takes(t, f, a, 3, 35)
	took := takes(t, f, a, 4, 40)
	want := []api.Packet{{Flow: b, ID: 2, Size: 20, Seq: 3, Came: 1}, {Flow: b, ID: 1, Size: 10, Seq: 2, Came: 1}, {Flow: b, ID: 0, Size: 30, Seq: 1, Came: 1}}
	same(t, "Enqueue", all(took), all(want[:3]))
	refuses(t, f, b, 1, api.ErrPoliced)
	refuses(t, f, a, 50, api.ErrRefused)
	c, e := f.Stats(b)
	same(t, "Stats", all(c, e), all(api.Counters{Offered: count(4, 61), Refused: count(1, 1), Evicted: count(3, 60)}, api.OK))
	k.Set(80)
	polls(t, f, gone(a, 3, 35, 4, 1, 1), gone(a, 4, 40, 5, 1, 36))
}

// 19.5: the one on the link is in the buffer, whole till its stamp, and never evicted.
func TestOnTheLinkIsInTheBuffer(t *testing.T) {
	f, k := begun(t, confOf(api.AGE))
	low := plain(api.AGE)
	low.Class = 5
	a, b := opens(t, f, plain(api.AGE)), opens(t, f, low)
	k.Set(10)
	takes(t, f, b, 1, 50)
	takes(t, f, b, 2, 30)
	polls(t, f)
	k.Set(59)
	if l := takes(t, f, a, 3, 50); len(l) != 1 || l[0].ID != 2 {
		t.Fatalf("evicted: %v", l)
	}
	refuses(t, f, b, 1, api.ErrRefused)
	refuses(t, f, a, 1, api.ErrRefused)
	k.Set(60)
	takes(t, f, b, 4, 50)
	k.Set(200)
	polls(t, f, gone(b, 1, 50, 1, 10, 10), gone(a, 3, 50, 3, 59, 60), gone(b, 4, 50, 4, 60, 110))
}

// deep is a scheduler of a fluid's, with flows of odd weights that come and go in it, up to the first packet that is too deep for it. It tells that one's flow; the last flow never has tokens.
func deep(t *testing.T, kind int) (*fair.Fair, *clock.Fake, api.Handle) {
	t.Helper()
	c := api.Conf{Kind: kind, Room: 1 << 30, Most: 100, Cap: 4096, Flows: 60}
	node := 0
	if kind == api.TREE {
		c.Nodes = []api.Node{{Kind: api.TREE}, {Kind: api.WFQ, Quantum: 5}}
		node = 1
	}
	f, k := begun(t, c)
	for i := range 59 {
		opens(t, f, api.Params{Weight: 2*i + 1, Burst: 1 << 30, Rate: 1 << 20, Per: 1, Node: node})
	}
	opens(t, f, api.Params{Weight: 119, Burst: 1, Per: 1, Node: node})
	k.Step(1)
	takes(t, f, handle(0, 1), 0, 100)
	for i := range 5000 {
		k.Step(1)
		h := handle(1+i*7%58, 1)
		_, _, e := f.Enqueue(h, i, 1)
		if e == api.ErrDeep {
			return f, k, h
		}
		is(t, "Enqueue", e, api.OK)
	}
	t.Fatalf("kind %d: no packet is too deep", kind)
	return nil, nil, api.Handle{}
}

// 19.5: a packet that is too deep is counted as refused, and takes nothing; one that has no tokens is policed ahead of that.
func TestDeep(t *testing.T) {
	for _, kind := range []int{api.WFQ, api.WF2, api.TREE} {
		f, k, h := deep(t, kind)
		before, e := f.Stats(h)
		is(t, "Stats", e, api.OK)
		s, _ := f.Snapshot()
		refuses(t, f, h, 3, api.ErrDeep)
		refuses(t, f, h, 3, api.ErrDeep)
		after, _ := f.Stats(h)
		before.Offered.Packets += 2
		before.Offered.Bytes += 6
		before.Refused.Packets += 2
		before.Refused.Bytes += 6
		same(t, "Stats", all(after), all(before))
		then, _ := f.Snapshot()
		same(t, "the queue and the tokens", all(then.Flows[h.Slot].Queue, then.Flows[h.Slot].Tokens), all(s.Flows[h.Slot].Queue, s.Flows[h.Slot].Tokens))
		refuses(t, f, h, 0, api.ErrSize)
		refuses(t, f, handle(59, 1), 3, api.ErrPoliced)
		// Once the fluid was without, tags are short again.
		seq := s.Total.Offered.Packets - s.Total.Refused.Packets
		k.Step(1 << 30)
		polled, e := f.Poll()
		if len(polled) != seq || e != api.OK {
			t.Fatalf("kind %d: %d departures, %v, want %d", kind, len(polled), e, seq)
		}
		next, _, e := f.Enqueue(h, 0, 3)
		same(t, "Enqueue", all(next, e), all(seq+1, api.OK))
	}
}

// 19.6: each departure is told once, by the first Poll behind it, whoever looked meanwhile.
func TestPoll(t *testing.T) {
	for _, kind := range kinds {
		f, k := begun(t, confOf(kind))
		h := opens(t, f, plain(kind))
		k.Set(10)
		for id := range 4 {
			takes(t, f, h, id, 10)
		}
		polls(t, f)
		for _, tick := range []int{19, 20, 31, 35} {
			k.Set(tick)
			f.Total()
			f.Snapshot()
			takes(t, f, h, tick, 1)
		}
		polls(t, f, gone(h, 0, 10, 1, 10, 10), gone(h, 1, 10, 2, 10, 20))
		polls(t, f)
		k.Set(40)
		polls(t, f, gone(h, 2, 10, 3, 10, 30))
		f.Close(h)
		k.Set(49)
		polls(t, f)
		k.Set(1000)
		polls(t, f, gone(h, 3, 10, 4, 10, 40))
		polls(t, f)
	}
}

// 19.6: a Poll lets the next one begin at its own tick, another call does not.
func TestPollBegins(t *testing.T) {
	f, k := begun(t, confOf(api.AGE))
	h := opens(t, f, plain(api.AGE))
	k.Set(10)
	takes(t, f, h, 1, 10)
	if s, _ := f.Snapshot(); s.Busy {
		t.Fatal("it began ahead of a Poll")
	}
	polls(t, f)
	if s, _ := f.Snapshot(); !s.Busy {
		t.Fatal("it did not begin with a Poll")
	}
	k.Set(20)
	takes(t, f, h, 2, 10)
	k.Set(21)
	s, e := f.Snapshot()
	if !s.Busy || s.Now.ID != 2 || s.Until != 30 || e != api.OK {
		t.Fatalf("a tick later: %+v %v", s, e)
	}
}
