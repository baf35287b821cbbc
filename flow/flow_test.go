package flow_test

import (
	"math"
	"slices"
	"testing"

	"millrace/api"
	"millrace/flow"
)

// aged is a set-up with room for so many flows.
func aged(flows int) api.Conf {
	return api.Conf{Kind: api.AGE, Room: 100, Most: 50, Cap: 10, Flows: flows}
}

// byTheTick is a flow whose bucket gets a token a tick, up to 60.
func byTheTick() api.Params { return api.Params{Weight: 2, Burst: 60, Rate: 1, Per: 1} }

// tableOf is the table of a set-up, which must be given.
func tableOf(t *testing.T, c api.Conf) *flow.Table {
	t.Helper()
	x, e := flow.New(c)
	if x == nil || e != api.OK {
		t.Fatalf("New(%+v): %v %v", c, x, e)
	}
	return x
}

// opens opens a flow, which must be given.
func opens(t *testing.T, x *flow.Table, p api.Params, at int) api.Handle {
	t.Helper()
	h, e := x.Open(p, at)
	if e != api.OK {
		t.Fatalf("Open(%+v, %d): %v", p, at, e)
	}
	return h
}

// admits admits a packet of no ID, which must be taken.
func admits(t *testing.T, x *flow.Table, h api.Handle, size, at int) api.Packet {
	t.Helper()
	p, e := x.Admit(h, 0, size, at)
	if e != api.OK {
		t.Fatalf("Admit(%v, 0, %d, %d): %v", h, size, at, e)
	}
	return p
}

// answers asks for an error, or for none.
func answers(t *testing.T, what string, got, want api.Errno) {
	t.Helper()
	if got != want {
		t.Fatalf("%s: %v, want %v", what, got, want)
	}
}

// gives asks for a packet, or for an error beside none.
func gives(t *testing.T, what string, p api.Packet, e api.Errno, want api.Packet, is api.Errno) {
	t.Helper()
	if p != want || e != is {
		t.Fatalf("%s: %+v %v, want %+v %v", what, p, e, want, is)
	}
}

// totals asks for the books of all.
func totals(t *testing.T, x *flow.Table, want api.Counters) {
	t.Helper()
	if x.Total() != want {
		t.Fatalf("Total: %+v, want %+v", x.Total(), want)
	}
}

// has asks for the whole tokens of a flow, at the time that its bucket has, which does not go on by that.
func has(t *testing.T, what string, x *flow.Table, h api.Handle, want float64) {
	t.Helper()
	if f, e := x.Tell(h, -1); f.Tokens != want || e != api.OK {
		t.Fatalf("%s: %v tokens, %v, want %v", what, f.Tokens, e, want)
	}
}

func count(packets, bytes int) api.Count { return api.Count{Packets: packets, Bytes: bytes} }

func handle(slot, generation int) api.Handle { return api.Handle{Slot: slot, Gen: generation} }

// The examples

func TestExamples(t *testing.T) {
	x, h := tableOf(t, aged(1)), handle(0, 1)
	if g := opens(t, x, byTheTick(), 5); g != h {
		t.Fatalf("Open: %v", g)
	}
	g, e := x.Open(byTheTick(), 5)
	if g != (api.Handle{}) || e != api.ErrFull {
		t.Fatalf("Open of another: %v %v", g, e)
	}
	answers(t, "Look of 51", x.Look(h, 51, 9), api.ErrSize)
	answers(t, "Look of 0", x.Look(h, 0, 9), api.ErrSize)
	answers(t, "Look of 5", x.Look(h, 5, 9), api.ErrPoliced)
	answers(t, "Look of 4", x.Look(h, 4, 9), api.OK)
	answers(t, "Refuse", x.Refuse(h, 7), api.OK)
	totals(t, x, api.Counters{Offered: count(1, 7), Refused: count(1, 7)})
	one, two := api.Packet{Flow: h, ID: 3, Size: 4, Seq: 1, Came: 9}, api.Packet{Flow: h, ID: 3, Size: 6, Seq: 2, Came: 15}
	p, e := x.Admit(h, 3, 4, 9)
	gives(t, "Admit", p, e, one, api.OK)
	p, e = x.Admit(h, 3, 6, 15)
	gives(t, "Admit", p, e, two, api.OK)
	p, e = x.Begin(h)
	gives(t, "Begin", p, e, one, api.OK)
	p, e = x.Begin(h)
	gives(t, "Begin", p, e, api.Packet{}, api.ErrArg)
	l, c, e := x.Close(h)
	if want := (api.Counters{Offered: count(3, 17), Refused: count(1, 7), Evicted: count(1, 6), Sending: count(1, 4)}); !slices.Equal(l, []api.Packet{two}) || c != want || e != api.OK {
		t.Fatalf("Close: %v %+v %v", l, c, e)
	}
	p, e = x.Left()
	gives(t, "Left", p, e, one, api.OK)
	p, e = x.Left()
	gives(t, "Left", p, e, api.Packet{}, api.ErrArg)
	totals(t, x, api.Counters{Offered: count(3, 17), Refused: count(1, 7), Evicted: count(1, 6), Departed: count(1, 4)})
	if g := opens(t, x, byTheTick(), 20); g != handle(0, 2) {
		t.Fatalf("Open again: %v", g)
	}
	c, e = x.Books(h)
	if c != (api.Counters{}) || e != api.ErrHandle {
		t.Fatalf("Books of the old handle: %+v %v", c, e)
	}
}

// 10.1

func TestNewIsEmpty(t *testing.T) {
	for _, c := range kinds(256) {
		agrees(t, "New", tableOf(t, c), modelOf(c))
	}
}

func TestNewRefuses(t *testing.T) {
	for _, w := range []struct {
		change func(*api.Conf)
		want   api.Errno
	}{
		{func(c *api.Conf) { *c = api.Conf{} }, api.ErrKind},
		{func(c *api.Conf) { c.Kind = 7 }, api.ErrKind},
		{func(c *api.Conf) { c.Most = 0 }, api.ErrMost},
		{func(c *api.Conf) { c.Room = 49 }, api.ErrRoom},
		{func(c *api.Conf) { c.Cap = 4097 }, api.ErrWeight},
		{func(c *api.Conf) { c.Flows = 0 }, api.ErrFlows},
		{func(c *api.Conf) { c.Flows = 257 }, api.ErrFlows},
		{func(c *api.Conf) { c.Age = -1 }, api.ErrClass},
		{func(c *api.Conf) { c.Nodes = []api.Node{{Kind: api.TREE}} }, api.ErrArg},
		{func(c *api.Conf) { c.Kind = api.TREE }, api.ErrArg},
		{func(c *api.Conf) { c.Kind, c.Nodes = api.TREE, []api.Node{{Kind: api.DRR}} }, api.ErrKind},
	} {
		c := aged(2)
		w.change(&c)
		if x, e := flow.New(c); x != nil || e != w.want {
			t.Errorf("New(%+v): %v %v, want nil and %v", c, x, e, w.want)
		}
	}
}

func TestTwoTablesHaveNothingInCommon(t *testing.T) {
	x, y := tableOf(t, aged(2)), tableOf(t, aged(2))
	h := opens(t, x, byTheTick(), 0)
	admits(t, x, h, 5, 50)
	admits(t, x, h, 6, 50)
	x.Begin(h)
	agrees(t, "the other one", y, modelOf(aged(2)))
	if g := opens(t, y, byTheTick(), 0); g != h {
		t.Fatalf("Open in the other one: %v", g)
	}
	if p := admits(t, y, h, 7, 40); p.Seq != 1 {
		t.Fatalf("Admit in the other one: %+v", p)
	}
	if p, e := y.Begin(h); p.Size != 7 || e != api.OK {
		t.Fatalf("Begin in the other one: %+v %v", p, e)
	}
	y.Close(h)
	totals(t, x, api.Counters{Offered: count(2, 11), Queued: count(1, 6), Sending: count(1, 5)})
	has(t, "the one", x, h, 39)
}

// What is handed in is neither changed nor kept, nor the spare room behind it.
func TestNodesAreNotKept(t *testing.T) {
	spare := append(kinds(2)[5].Nodes, api.Node{Kind: -1}, api.Node{Kind: -2})
	was := slices.Clone(spare)
	c := kinds(2)[5]
	c.Nodes = spare[:4]
	x := tableOf(t, c)
	leaf := api.Params{Weight: 1, Quantum: 3, Burst: 9, Rate: 1, Per: 1, Node: 3}
	opens(t, x, leaf, 0)
	if !slices.Equal(spare, was) {
		t.Fatalf("the nodes have become %v", spare)
	}
	clear(spare)
	if h := opens(t, x, leaf, 0); h != handle(1, 1) {
		t.Fatalf("Open behind a change of the nodes: %v", h)
	}
}

// 10.2

func TestOpenRefusesWhatConfRefuses(t *testing.T) {
	for _, w := range []struct {
		change func(*api.Params)
		want   api.Errno
	}{
		{func(p *api.Params) { p.Node = 1 }, api.ErrArg},
		{func(p *api.Params) { p.Weight = 0 }, api.ErrWeight},
		{func(p *api.Params) { p.Weight = 11 }, api.ErrWeight},
		{func(p *api.Params) { p.Quantum = 1 }, api.ErrQuantum},
		{func(p *api.Params) { p.Class = 16 }, api.ErrClass},
		{func(p *api.Params) { p.Span = 1 }, api.ErrSpan},
		{func(p *api.Params) { p.Burst = 0 }, api.ErrBurst},
		{func(p *api.Params) { p.Rate = math.NaN() }, api.ErrRate},
		{func(p *api.Params) { p.Per = 0 }, api.ErrRate},
	} {
		x, p := tableOf(t, aged(1)), byTheTick()
		w.change(&p)
		// It comes ahead of what is wrong with the tick, and ahead of a full table.
		for _, at := range []int{0, -1, lastTick + 1} {
			if h, e := x.Open(p, at); h != (api.Handle{}) || e != w.want {
				t.Errorf("Open(%+v, %d): %v %v, want %v", p, at, h, e, w.want)
			}
		}
		agrees(t, "Open that is refused", x, modelOf(aged(1)))
		opens(t, x, byTheTick(), 0)
		if h, e := x.Open(p, 0); h != (api.Handle{}) || e != w.want {
			t.Errorf("Open(%+v) in a full table: %v %v, want %v", p, h, e, w.want)
		}
	}
}

func TestOpenWithinItsTicks(t *testing.T) {
	for _, at := range []int{0, 1, lastTick - 1, lastTick} {
		x := tableOf(t, aged(1))
		if h := opens(t, x, byTheTick(), at); h != handle(0, 1) {
			t.Errorf("Open at %d: %v", at, h)
		}
	}
	for _, at := range []int{-1, math.MinInt, lastTick + 1, math.MaxInt} {
		x := tableOf(t, aged(1))
		if h, e := x.Open(byTheTick(), at); h != (api.Handle{}) || e != api.ErrArg {
			t.Errorf("Open at %d: %v %v", at, h, e)
		}
		agrees(t, "Open that is refused", x, modelOf(aged(1)))
		// Nothing was changed: no generation is gone.
		if h := opens(t, x, byTheTick(), 0); h != handle(0, 1) {
			t.Errorf("Open behind one at %d: %v", at, h)
		}
		// A full table comes ahead of the tick.
		if h, e := x.Open(byTheTick(), at); h != (api.Handle{}) || e != api.ErrFull {
			t.Errorf("Open at %d in a full table: %v %v", at, h, e)
		}
	}
}

// Flows may be opened at ticks ahead of those of earlier ones, and of packets that came.
func TestOpenAtAnEarlierTick(t *testing.T) {
	x := tableOf(t, aged(2))
	h := opens(t, x, byTheTick(), 100)
	admits(t, x, h, 5, 150)
	g := opens(t, x, byTheTick(), 20)
	answers(t, "Look", x.Look(g, 11, 30), api.ErrPoliced)
	answers(t, "Look", x.Look(g, 10, 30), api.OK)
}

func TestAsManyFlowsAsMayBe(t *testing.T) {
	for _, flows := range []int{1, 2, 255, 256} {
		x := tableOf(t, aged(flows))
		for round := 1; round < 4; round++ {
			for i := range flows {
				if h := opens(t, x, byTheTick(), 0); h != handle(i, round) {
					t.Fatalf("Open in round %d: %v, want slot %d", round, h, i)
				}
			}
			if _, e := x.Open(byTheTick(), 0); e != api.ErrFull || x.Len() != flows {
				t.Fatalf("Open of one more than %d: %v", flows, e)
			}
			for i := flows - 1; i >= 0; i-- {
				x.Close(handle(i, round))
			}
		}
	}
}

// A slot is given again and again: no small number of times is its last.
func TestGenerationsGoOn(t *testing.T) {
	x := tableOf(t, aged(1))
	for i := range 70_000 {
		h := opens(t, x, byTheTick(), 0)
		if h != handle(0, i+1) {
			t.Fatalf("Open number %d: %v", i+1, h)
		}
		x.Close(h)
	}
}

func TestLeastSlotIsGiven(t *testing.T) {
	x := tableOf(t, aged(4))
	for range 4 {
		opens(t, x, byTheTick(), 0)
	}
	x.Close(handle(3, 1))
	x.Close(handle(1, 1))
	for _, want := range []api.Handle{handle(1, 2), handle(3, 2)} {
		if h := opens(t, x, byTheTick(), 0); h != want {
			t.Fatalf("Open: %v, want %v", h, want)
		}
	}
}

// The weights of a table may be more than Cap: the table lets them.
func TestOpenLooksAtNoSumOfWeights(t *testing.T) {
	x, p := tableOf(t, aged(3)), byTheTick()
	p.Weight = 10
	for i := range 3 {
		opens(t, x, p, 0)
		if x.Weight() != 10*(i+1) {
			t.Fatalf("Weight: %d", x.Weight())
		}
	}
}

func TestNewFlowIsNew(t *testing.T) {
	x := tableOf(t, aged(1))
	h := opens(t, x, byTheTick(), 0)
	admits(t, x, h, 5, 30)
	x.Refuse(h, 9)
	x.Close(h)
	p := byTheTick()
	p.Weight, p.Class = 3, 4
	g := opens(t, x, p, 30)
	f, e := x.Tell(g, 30)
	if want := (api.Flow{Handle: handle(0, 2), Params: p}); !sameFlow(f, want) || e != api.OK {
		t.Fatalf("Tell of a new flow: %+v %v, want %+v", f, e, want)
	}
	answers(t, "Look at the tick of Open", x.Look(g, 1, 30), api.ErrPoliced)
	answers(t, "Look a tick later", x.Look(g, 1, 31), api.OK)
}

// 10.3

func TestCloseTellsTheQueue(t *testing.T) {
	x := tableOf(t, aged(2))
	a, b := opens(t, x, byTheTick(), 0), opens(t, x, byTheTick(), 0)
	admits(t, x, a, 1, 50)
	two := admits(t, x, a, 2, 50)
	admits(t, x, b, 30, 51)
	four := admits(t, x, a, 3, 52)
	admits(t, x, a, 4, 53)
	x.Evict(a)
	x.Begin(a)
	x.Refuse(a, 5)
	l, c, e := x.Close(a)
	want := api.Counters{Offered: count(5, 15), Refused: count(1, 5), Evicted: count(3, 9), Sending: count(1, 1)}
	if !slices.Equal(l, []api.Packet{two, four}) || c != want || e != api.OK {
		t.Fatalf("Close: %v %+v %v, want %+v", l, c, e, want)
	}
	totals(t, x, api.Counters{Offered: count(6, 45), Refused: count(1, 5), Evicted: count(3, 9), Queued: count(1, 30), Sending: count(1, 1)})
	if x.Len() != 1 || x.Weight() != 2 || x.Seq() != 5 {
		t.Fatalf("behind Close: Len %d, Weight %d, Seq %d", x.Len(), x.Weight(), x.Seq())
	}
	l, c, e = x.Close(a)
	if len(l) != 0 || c != (api.Counters{}) || e != api.ErrHandle {
		t.Fatalf("Close again: %v %+v %v", l, c, e)
	}
}

func TestCloseOfNothingQueued(t *testing.T) {
	x := tableOf(t, aged(1))
	l, c, e := x.Close(opens(t, x, byTheTick(), 0))
	if len(l) != 0 || c != (api.Counters{}) || e != api.OK {
		t.Fatalf("Close: %v %+v %v", l, c, e)
	}
	agrees(t, "Close", x, modelOf(aged(1)))
}

// A handle of no open flow comes ahead of all other errors, in each call, and nothing is changed by it.
func TestHandlesOfNothing(t *testing.T) {
	x, m := tableOf(t, aged(3)), modelOf(aged(3))
	for range 2 {
		x.Open(byTheTick(), 0)
		m.open(byTheTick(), 0)
	}
	m.admit(handle(0, 1), 0, 5, 30)
	admits(t, x, handle(0, 1), 5, 30)
	x.Close(handle(1, 1))
	m.close(handle(1, 1))
	for _, h := range []api.Handle{{}, handle(0, 0), handle(0, 2), handle(0, -1), handle(1, 1), handle(1, 2), handle(2, 0), handle(2, 1), handle(3, 1), handle(-1, 0), handle(-1, 1), handle(math.MinInt, 1), handle(math.MaxInt, 1), handle(1<<32, 1), handle(0, 1<<32+1), handle(256, 1)} {
		for _, kind := range []string{"close", "look", "wait", "refuse", "admit", "evict", "begin", "books", "tell"} {
			for _, c := range []call{{size: 5, at: 40}, {size: 0, at: -1}, {size: 51, at: lastTick + 1}} {
				c.kind, c.h = kind, h
				want := answer{e: api.ErrHandle}
				if kind == "tell" {
					want.flows = []api.Flow{{}}
				}
				if got := does(x, c); !got.is(want) {
					t.Fatalf("%+v: %+v, want ErrHandle alone", c, got)
				}
			}
		}
	}
	agrees(t, "behind them", x, m)
}

// 10.4

func TestSizesThatMayBe(t *testing.T) {
	for _, most := range []int{1, 50, 65_536} {
		c := api.Conf{Kind: api.WFQ, Room: 1 << 30, Most: most, Cap: 1, Flows: 1}
		x, m := tableOf(t, c), modelOf(c)
		p := api.Params{Weight: 1, Burst: 1 << 40, Rate: 1 << 20, Per: 1}
		h := opens(t, x, p, 0)
		m.open(p, 0)
		for _, size := range []int{0, -1, math.MinInt, most + 1, 1 << 32, math.MaxInt} {
			for _, kind := range []string{"look", "wait", "refuse", "admit"} {
				// The size comes ahead of what is wrong with the tick, and of the tokens.
				for _, at := range []int{0, 9, -1, lastTick + 1} {
					if got := does(x, call{kind: kind, h: h, size: size, at: at}); !got.is(answer{e: api.ErrSize}) {
						t.Fatalf("%s of %d at %d, Most %d: %+v", kind, size, at, most, got)
					}
				}
			}
		}
		// No bucket was asked: none has tokens.
		agrees(t, "sizes that may not be", x, m)
		answers(t, "Look without tokens", x.Look(h, 1, 0), api.ErrPoliced)
		for _, size := range []int{1, most} {
			answers(t, "Look", x.Look(h, size, 9), api.OK)
			answers(t, "Refuse", x.Refuse(h, size), api.OK)
			admits(t, x, h, size, 9)
			if tick, e := x.Wait(h, size, 9); tick != 9 || e != api.OK {
				t.Fatalf("Wait of %d: %d %v", size, tick, e)
			}
		}
	}
}

func TestLookAsksTheBucket(t *testing.T) {
	x, p := tableOf(t, aged(1)), byTheTick()
	p.Rate, p.Per, p.Burst = 1, 3, 20
	h := opens(t, x, p, 100)
	for _, c := range []struct {
		size, at int
		want     api.Errno
	}{
		{1, 0, api.ErrPoliced}, {1, 100, api.ErrPoliced}, {1, 102, api.ErrPoliced}, {1, 103, api.OK}, {2, 105, api.ErrPoliced},
		{2, 106, api.OK}, {3, 108, api.ErrPoliced}, {3, 109, api.OK}, {20, 159, api.ErrPoliced}, {20, 160, api.OK}, {21, 1000, api.ErrPoliced}, {20, lastTick + 1, api.OK}, {21, math.MaxInt, api.ErrPoliced},
	} {
		answers(t, "Look", x.Look(h, c.size, c.at), c.want)
	}
	totals(t, x, api.Counters{})
	has(t, "behind Look", x, h, 20)
}

// A bucket's time goes on by each Look, Wait and Admit behind ErrHandle and ErrSize, whatever is answered.
func TestWhenABucketIsAsked(t *testing.T) {
	for _, c := range []struct {
		do   func(x *flow.Table, h api.Handle) api.Errno
		want api.Errno
		has  float64
	}{
		{func(x *flow.Table, h api.Handle) api.Errno { return x.Look(h, 5, 9) }, api.OK, 9},
		{func(x *flow.Table, h api.Handle) api.Errno { return x.Look(h, 10, 9) }, api.ErrPoliced, 9},
		{func(x *flow.Table, h api.Handle) api.Errno { return x.Look(h, 51, 9) }, api.ErrSize, 0},
		{func(x *flow.Table, h api.Handle) api.Errno { return x.Look(h, 1, lastTick+1) }, api.OK, 60},
		{func(x *flow.Table, h api.Handle) api.Errno { _, e := x.Wait(h, 50, 9); return e }, api.OK, 9},
		{func(x *flow.Table, h api.Handle) api.Errno { _, e := x.Wait(h, 0, 9); return e }, api.ErrSize, 0},
		{func(x *flow.Table, h api.Handle) api.Errno { _, e := x.Admit(h, 0, 5, 9); return e }, api.OK, 4},
		{func(x *flow.Table, h api.Handle) api.Errno { _, e := x.Admit(h, 0, 10, 9); return e }, api.ErrPoliced, 9},
		{func(x *flow.Table, h api.Handle) api.Errno { _, e := x.Admit(h, 0, 0, 9); return e }, api.ErrSize, 0},
		{func(x *flow.Table, h api.Handle) api.Errno { _, e := x.Admit(h, 0, 5, lastTick+1); return e }, api.ErrArg, 60},
		{func(x *flow.Table, h api.Handle) api.Errno { return x.Refuse(h, 5) }, api.OK, 0},
	} {
		x := tableOf(t, aged(1))
		h := opens(t, x, byTheTick(), 0)
		answers(t, "the call", c.do(x, h), c.want)
		has(t, "behind it", x, h, c.has)
	}
}

func TestWaitTellsTheTick(t *testing.T) {
	x, p := tableOf(t, aged(2)), byTheTick()
	p.Burst, p.Rate, p.Per = 40, 1, 3
	h := opens(t, x, p, 100)
	never := p
	never.Rate = 0
	g := opens(t, x, never, 0)
	for _, c := range []struct {
		h              api.Handle
		size, at, tick int
		want           api.Errno
	}{
		{h, 1, 0, 103, api.OK}, {h, 40, 100, 220, api.OK}, {h, 41, 100, 0, api.ErrPoliced}, {h, 1, 102, 103, api.OK}, {h, 1, 110, 110, api.OK},
		{h, 4, 110, 112, api.OK}, {h, 4, 50, 112, api.OK}, {h, 50, 110, 0, api.ErrPoliced}, {h, 0, 110, 0, api.ErrSize}, {h, 51, 110, 0, api.ErrSize},
		{g, 1, 5, 0, api.ErrPoliced}, {g, 1, math.MaxInt, 0, api.ErrPoliced}, {h, 40, lastTick + 1, lastTick, api.OK},
	} {
		if tick, e := x.Wait(c.h, c.size, c.at); tick != c.tick || e != c.want {
			t.Fatalf("Wait(%v, %d, %d): %d %v, want %d %v", c.h, c.size, c.at, tick, e, c.tick, c.want)
		}
	}
	totals(t, x, api.Counters{})
}

// At the tick that Wait told a packet is admitted, a tick ahead of it not.
func TestAdmitAtTheTickOfWait(t *testing.T) {
	x, p := tableOf(t, aged(1)), byTheTick()
	p.Rate, p.Per = 0.1, 7
	h := opens(t, x, p, 3)
	for _, size := range []int{1, 7, 50} {
		tick, e := x.Wait(h, size, -1)
		answers(t, "Wait", e, api.OK)
		_, e = x.Admit(h, 0, size, tick-1)
		answers(t, "Admit ahead of it", e, api.ErrPoliced)
		admits(t, x, h, size, tick)
	}
}

// 10.5

func TestRefuseCounts(t *testing.T) {
	x := tableOf(t, aged(2))
	a, b := opens(t, x, byTheTick(), 0), opens(t, x, byTheTick(), 0)
	answers(t, "Refuse", x.Refuse(a, 50), api.OK)
	answers(t, "Refuse", x.Refuse(a, 1), api.OK)
	answers(t, "Refuse", x.Refuse(b, 7), api.OK)
	answers(t, "Refuse of 51", x.Refuse(b, 51), api.ErrSize)
	for h, want := range map[api.Handle]api.Count{a: count(2, 51), b: count(1, 7)} {
		if c, e := x.Books(h); c != (api.Counters{Offered: want, Refused: want}) || e != api.OK {
			t.Fatalf("Books(%v): %+v %v", h, c, e)
		}
	}
	totals(t, x, api.Counters{Offered: count(3, 58), Refused: count(3, 58)})
	if x.Seq() != 0 {
		t.Fatalf("Seq: %d", x.Seq())
	}
}

func TestAdmitNumbersOverAllFlows(t *testing.T) {
	x := tableOf(t, aged(2))
	a, b := opens(t, x, byTheTick(), 0), opens(t, x, byTheTick(), 0)
	seq := 0
	for _, c := range []struct {
		h            api.Handle
		id, size, at int
	}{{a, math.MinInt, 1, 50}, {b, math.MaxInt, 50, 50}, {a, -1, 9, 51}, {a, 0, 40, 51}, {b, 7, 11, 61}} {
		seq++
		p, e := x.Admit(c.h, c.id, c.size, c.at)
		gives(t, "Admit", p, e, api.Packet{Flow: c.h, ID: c.id, Size: c.size, Seq: seq, Came: c.at}, api.OK)
		if x.Seq() != seq {
			t.Fatalf("Seq: %d, want %d", x.Seq(), seq)
		}
	}
	// What is evicted or gone with its flow leaves its number behind.
	x.Evict(b)
	x.Close(a)
	if p := admits(t, x, b, 5, 70); p.Seq != 6 || x.Seq() != 6 {
		t.Fatalf("Admit behind all: %+v, Seq %d", p, x.Seq())
	}
}

func TestAdmitTakesTokens(t *testing.T) {
	x := tableOf(t, aged(2))
	a, b := opens(t, x, byTheTick(), 0), opens(t, x, byTheTick(), 0)
	admits(t, x, a, 20, 30)
	has(t, "behind Admit", x, a, 10)
	_, e := x.Admit(a, 0, 11, 30)
	answers(t, "Admit of more", e, api.ErrPoliced)
	admits(t, x, a, 10, 30)
	has(t, "behind all", x, a, 0)
	_, e = x.Admit(a, 0, 1, 30)
	answers(t, "Admit of an empty one", e, api.ErrPoliced)
	// Nobody's tokens are another's, and those of an evicted packet are not given back.
	x.Evict(a)
	has(t, "behind Evict", x, a, 0)
	admits(t, x, b, 30, 30)
}

func TestAdmitWithinItsTicks(t *testing.T) {
	for _, c := range []struct {
		at   int
		want api.Errno
	}{{99, api.ErrArg}, {0, api.ErrArg}, {-1, api.ErrArg}, {math.MinInt, api.ErrArg}, {lastTick + 1, api.ErrArg}, {math.MaxInt, api.ErrArg}, {100, api.OK}, {101, api.OK}, {lastTick, api.OK}} {
		x := tableOf(t, aged(2))
		a, b := opens(t, x, byTheTick(), 0), opens(t, x, byTheTick(), 0)
		admits(t, x, a, 1, 100)
		// The tick of an earlier Admit of any flow, also of a closed one; the buckets have tokens at each of these ticks.
		x.Close(a)
		x.Look(b, 1, 100)
		before, _ := x.Books(b)
		p, e := x.Admit(b, 3, 2, c.at)
		answers(t, "Admit", e, c.want)
		if books, _ := x.Books(b); e != api.OK && (p != (api.Packet{}) || x.Seq() != 1 || books != before) {
			t.Fatalf("Admit at %d: %+v, Seq %d, %+v", c.at, p, x.Seq(), books)
		}
		if e == api.OK && (p.Came != c.at || x.Seq() != 2) {
			t.Fatalf("Admit at %d: %+v, Seq %d", c.at, p, x.Seq())
		}
	}
}

// Tokens come ahead of the tick; and ticks of what is refused, looked at or opened are no ticks of an Admit.
func TestAdmitOrderOfErrors(t *testing.T) {
	x := tableOf(t, aged(2))
	a := opens(t, x, byTheTick(), 0)
	admits(t, x, a, 10, 10)
	_, e := x.Admit(a, 0, 1, 5)
	answers(t, "without tokens, ahead of an earlier one", e, api.ErrPoliced)
	_, e = x.Admit(a, 0, 1, -1)
	answers(t, "without tokens, below 0", e, api.ErrPoliced)
	answers(t, "Look", x.Look(a, 30, 50), api.OK)
	b := opens(t, x, byTheTick(), 40)
	x.Look(b, 1, 45)
	_, e = x.Admit(b, 0, 50, 60)
	answers(t, "without tokens", e, api.ErrPoliced)
	_, e = x.Admit(b, 0, 5, 9)
	answers(t, "ahead of an earlier one", e, api.ErrArg)
	has(t, "what is refused takes nothing", x, b, 20)
	if p := admits(t, x, a, 30, 10); p.Seq != 2 || p.Came != 10 {
		t.Fatalf("Admit at the tick of the earlier one: %+v", p)
	}
}

// 10.6

func TestEvictTakesTheLast(t *testing.T) {
	x := tableOf(t, aged(2))
	a, b := opens(t, x, byTheTick(), 0), opens(t, x, byTheTick(), 0)
	one, two := admits(t, x, a, 1, 50), admits(t, x, a, 2, 50)
	admits(t, x, b, 3, 50)
	p, e := x.Evict(a)
	gives(t, "Evict", p, e, two, api.OK)
	if c, _ := x.Books(a); c != (api.Counters{Offered: count(2, 3), Evicted: count(1, 2), Queued: count(1, 1)}) {
		t.Fatalf("Books: %+v", c)
	}
	p, e = x.Evict(a)
	gives(t, "Evict", p, e, one, api.OK)
	before := x.Total()
	p, e = x.Evict(a)
	gives(t, "Evict of none", p, e, api.Packet{}, api.ErrArg)
	totals(t, x, before)
	totals(t, x, api.Counters{Offered: count(3, 6), Evicted: count(2, 3), Queued: count(1, 3)})
}

func TestBeginTakesTheFirst(t *testing.T) {
	x := tableOf(t, aged(3))
	a, b, c := opens(t, x, byTheTick(), 0), opens(t, x, byTheTick(), 0), opens(t, x, byTheTick(), 0)
	one := admits(t, x, a, 1, 50)
	admits(t, x, a, 2, 50)
	three := admits(t, x, b, 3, 50)
	p, e := x.Begin(c)
	gives(t, "Begin of none", p, e, api.Packet{}, api.ErrArg)
	p, e = x.Left()
	gives(t, "Left of none", p, e, api.Packet{}, api.ErrArg)
	p, e = x.Begin(a)
	gives(t, "Begin", p, e, one, api.OK)
	for _, h := range []api.Handle{a, b, c} {
		before := x.Total()
		p, e = x.Begin(h)
		gives(t, "Begin beside one", p, e, api.Packet{}, api.ErrArg)
		totals(t, x, before)
	}
	totals(t, x, api.Counters{Offered: count(3, 6), Queued: count(2, 5), Sending: count(1, 1)})
	p, e = x.Left()
	gives(t, "Left", p, e, one, api.OK)
	if books, _ := x.Books(a); books != (api.Counters{Offered: count(2, 3), Departed: count(1, 1), Queued: count(1, 2)}) {
		t.Fatalf("Books: %+v", books)
	}
	p, e = x.Left()
	gives(t, "Left again", p, e, api.Packet{}, api.ErrArg)
	p, e = x.Begin(b)
	gives(t, "Begin of another", p, e, three, api.OK)
	// The one on the link is queued no more: it is not evicted.
	p, e = x.Evict(b)
	gives(t, "Evict of what is on the link", p, e, api.Packet{}, api.ErrArg)
}

// What leaves behind its flow counts in the books of all alone, whoever has its slot then.
func TestLeftOfAClosedFlow(t *testing.T) {
	for _, again := range []bool{false, true} {
		x := tableOf(t, aged(1))
		h := opens(t, x, byTheTick(), 0)
		one := admits(t, x, h, 4, 50)
		x.Begin(h)
		if l, c, e := x.Close(h); len(l) != 0 || c != (api.Counters{Offered: count(1, 4), Sending: count(1, 4)}) || e != api.OK {
			t.Fatalf("Close: %v %+v %v", l, c, e)
		}
		if again {
			opens(t, x, byTheTick(), 0)
			admits(t, x, handle(0, 2), 7, 50)
			p, e := x.Begin(handle(0, 2))
			gives(t, "Begin beside one of a closed flow", p, e, api.Packet{}, api.ErrArg)
		}
		p, e := x.Left()
		gives(t, "Left", p, e, one, api.OK)
		if !again {
			totals(t, x, api.Counters{Offered: count(1, 4), Departed: count(1, 4)})
			continue
		}
		totals(t, x, api.Counters{Offered: count(2, 11), Departed: count(1, 4), Queued: count(1, 7)})
		if c, e := x.Books(handle(0, 2)); c != (api.Counters{Offered: count(1, 7), Queued: count(1, 7)}) || e != api.OK {
			t.Fatalf("Books of the one behind it: %+v %v", c, e)
		}
	}
}

// 10.8

func TestWeightLenSeq(t *testing.T) {
	x := tableOf(t, aged(3))
	is := func(what string, weight, open, seq int) {
		t.Helper()
		if x.Weight() != weight || x.Len() != open || x.Seq() != seq {
			t.Fatalf("%s: Weight %d, Len %d, Seq %d, want %d, %d, %d", what, x.Weight(), x.Len(), x.Seq(), weight, open, seq)
		}
	}
	is("at first", 0, 0, 0)
	var hs []api.Handle
	for _, w := range []int{1, 10, 4} {
		p := byTheTick()
		p.Weight = w
		hs = append(hs, opens(t, x, p, 0))
	}
	is("of three", 15, 3, 0)
	admits(t, x, hs[1], 1, 9)
	admits(t, x, hs[2], 1, 9)
	is("of three, with packets", 15, 3, 2)
	x.Close(hs[1])
	is("of two", 5, 2, 2)
	x.Close(hs[0])
	x.Close(hs[2])
	is("at last", 0, 0, 2)
}
