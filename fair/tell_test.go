package fair_test

import (
	"math"
	"testing"

	"millrace/api"
	"millrace/clock"
	"millrace/fair"
)

// looks is a snapshot, which must be told.
func looks(t *testing.T, f *fair.Fair) api.Snapshot {
	t.Helper()
	s, e := f.Snapshot()
	is(t, "Snapshot", e, api.OK)
	return s
}

// 19.7: of a flow its own, of all what was ever offered to an open one.
func TestBooks(t *testing.T) {
	for _, kind := range kinds {
		f, k := begun(t, confOf(kind))
		a, b := opens(t, f, plain(kind)), opens(t, f, plain(kind))
		books := func(what string, h api.Handle, want api.Counters) {
			t.Helper()
			c, e := f.Stats(h)
			same(t, what, all(c, e), all(want, api.OK))
		}
		refuses(t, f, a, 7, api.ErrPoliced)
		k.Set(10)
		takes(t, f, a, 1, 10)
		takes(t, f, b, 2, 30)
		takes(t, f, b, 3, 20)
		refuses(t, f, handle(2, 1), 20, api.ErrHandle)
		refuses(t, f, b, 0, api.ErrSize)
		books("the one, queued", a, api.Counters{Offered: count(2, 17), Refused: count(1, 7), Queued: count(1, 10)})
		k.Set(11)
		books("the one, sending", a, api.Counters{Offered: count(2, 17), Refused: count(1, 7), Sending: count(1, 10)})
		books("the other", b, api.Counters{Offered: count(2, 50), Queued: count(2, 50)})
		k.Set(40)
		books("the one, departed", a, api.Counters{Offered: count(2, 17), Refused: count(1, 7), Departed: count(1, 10)})
		books("the other, sending", b, api.Counters{Offered: count(2, 50), Queued: count(1, 20), Sending: count(1, 30)})
		f.Close(b)
		c, e := f.Total()
		same(t, "Total", all(c, e), all(api.Counters{Offered: count(4, 67), Refused: count(1, 7), Evicted: count(1, 20), Departed: count(1, 10), Sending: count(1, 30)}, api.OK))
		f.Close(a)
		k.Set(50)
		c, e = f.Total()
		same(t, "Total of no open flow", all(c, e), all(api.Counters{Offered: count(4, 67), Refused: count(1, 7), Evicted: count(1, 20), Departed: count(2, 40)}, api.OK))
	}
}

// 19.8: all of it, by hand.
func TestSnapshot(t *testing.T) {
	c := confOf(api.AGE)
	c.Flows = 3
	f, k := begun(t, c)
	p := api.Params{Weight: 1, Burst: 100, Rate: 4, Per: 1}
	q := api.Params{Weight: 3, Class: 1, Burst: 60, Rate: 0.5, Per: 3}
	a, b := opens(t, f, p), opens(t, f, q)
	k.Set(10)
	takes(t, f, a, 7, 20)
	takes(t, f, a, 8, 20)
	refuses(t, f, b, 2, api.ErrPoliced)
	k.Set(18)
	takes(t, f, b, 9, 3)
	takes(t, f, a, -1, 5)
	got := looks(t, f)
	one := api.Counters{Offered: count(3, 45), Queued: count(2, 25), Sending: count(1, 20)}
	two := api.Counters{Offered: count(2, 5), Refused: count(1, 2), Queued: count(1, 3)}
	packet := func(h api.Handle, id, size, seq, came int) api.Packet {
		return api.Packet{Flow: h, ID: id, Size: size, Seq: seq, Came: came}
	}
	want := api.Snapshot{
		Time:  18,
		Total: api.Counters{Offered: count(5, 50), Refused: count(1, 2), Queued: count(3, 28), Sending: count(1, 20)},
		Flows: []api.Flow{
			{Handle: a, Params: p, Counters: one, Tokens: 27, Queue: []api.Packet{packet(a, 8, 20, 2, 10), packet(a, -1, 5, 4, 18)}},
			{Handle: b, Params: q, Counters: two, Tokens: 0, Queue: []api.Packet{packet(b, 9, 3, 3, 18)}},
		},
		Busy: true, Now: packet(a, 7, 20, 1, 10), Until: 30,
		Gauge: api.Gauge{Fairness: 1},
	}
	same(t, "Snapshot", all(got), all(want))
	// The departures: 7 at 30 behind 20, 8 at 50 behind 40, -1 at 55 behind 37, 9 at 58 behind 40. No Poll tells them ahead of the last look.
	k.Set(58)
	got = looks(t, f)
	one, two = api.Counters{Offered: count(3, 45), Departed: count(3, 45)}, api.Counters{Offered: count(2, 5), Refused: count(1, 2), Departed: count(1, 3)}
	want = api.Snapshot{
		Time:  58,
		Total: api.Counters{Offered: count(5, 50), Refused: count(1, 2), Departed: count(4, 48)},
		Flows: []api.Flow{
			{Handle: a, Params: p, Counters: one, Tokens: 100, Delays: []int{0, 0, 0, 0, 0, 1, 2}},
			{Handle: b, Params: q, Counters: two, Tokens: 40.0 / 6, Delays: []int{0, 0, 0, 0, 0, 0, 1}},
		},
		// The shares are 45 and 1: their sum's square is 2116, that of their squares 2026.
		Gauge:  api.Gauge{Mean: 34.25, Greatest: 40, Half: 37, Tail: 40, Share: 48.0 / 58, Fairness: 2116.0 / 4052},
		Delays: []int{0, 0, 0, 0, 0, 1, 3},
	}
	same(t, "Snapshot behind all", all(got), all(want))
	l, e := f.Poll()
	if len(l) != 4 || e != api.OK {
		t.Fatalf("Poll: %v %v", l, e)
	}
	same(t, "Snapshot behind the Poll", all(looks(t, f)), all(want))
}

// 19.8: open flows by rising slot, with what they were opened with, however they came.
func TestFlowsByTheirSlots(t *testing.T) {
	c := confOf(api.WFQ)
	c.Flows, c.Cap = 5, 100
	f, _ := begun(t, c)
	p := plain(api.WFQ)
	for i := range 5 {
		p.Weight = 10 + i
		opens(t, f, p)
	}
	for _, slot := range []int{3, 1, 0} {
		f.Close(handle(slot, 1))
	}
	p.Weight, p.Rate = 7, math.Copysign(0, -1)
	opens(t, f, p)
	p.Weight, p.Rate = 8, 0.1
	opens(t, f, p)
	told := []any{}
	for _, x := range looks(t, f).Flows {
		told = append(told, x.Handle, x.Params.Weight, x.Params.Rate, x.Tokens)
	}
	minus := math.Copysign(0, -1)
	same(t, "the flows", all(told...), all(handle(0, 2), 7, minus, 0, handle(1, 2), 8, 0.1, 0, handle(2, 1), 12, 1000, 0, handle(4, 1), 14, 1000, 0))
}

// 19.8: a flow's delays are those of this handle alone; those of all keep what closed ones sent.
func TestDelaysOfAHandle(t *testing.T) {
	f, k := begun(t, confOf(api.EDF))
	h := opens(t, f, plain(api.EDF))
	k.Set(10)
	takes(t, f, h, 1, 1)
	takes(t, f, h, 2, 2)
	takes(t, f, h, 3, 20)
	k.Set(14)
	if s := looks(t, f); all(s.Flows[0].Delays, s.Flows[0].Late, s.Delays) != all([]int{0, 1, 1}, 2, []int{0, 1, 1}) {
		t.Fatalf("of two: %+v", s)
	}
	f.Close(h)
	g := opens(t, f, plain(api.EDF))
	if g.Slot != h.Slot {
		t.Fatalf("the slot is another: %v", g)
	}
	k.Set(40)
	// What was on the link left behind 23 ticks, of no open flow.
	s := looks(t, f)
	same(t, "of a closed flow", all(s.Flows[0].Delays, s.Flows[0].Late, s.Flows[0].Counters, s.Delays, s.Gauge), all([]int{}, 0, api.Counters{}, []int{0, 1, 1, 0, 0, 1}, api.Gauge{Mean: 9, Greatest: 23, Half: 3, Tail: 23, Share: 23.0 / 40, Fairness: 1}))
	takes(t, f, g, 4, 4)
	k.Set(44)
	s = looks(t, f)
	same(t, "of the new one", all(s.Flows[0].Delays, s.Flows[0].Late, s.Delays), all([]int{0, 0, 0, 1}, 1, []int{0, 1, 1, 1, 0, 1}))
}

// 19.8: what is late: a stamp above Came and Span, just so, and only where there are deadlines.
func TestLate(t *testing.T) {
	tree := confOf(api.TREE)
	tree.Flows = 3
	for _, w := range []struct {
		c    api.Conf
		node int
		late []int
	}{
		{confOf(api.EDF), 0, []int{0, 1, 1}},
		{tree, 2, []int{0, 1, 1}},
		{confOf(api.AGE), 0, []int{0, 0, 0}},
		{confOf(api.WFQ), 0, []int{0, 0, 0}},
		{confOf(api.WF2), 0, []int{0, 0, 0}},
		{confOf(api.DRR), 0, []int{0, 0, 0}},
		{tree, 1, []int{0, 0, 0}},
		{tree, 3, []int{0, 0, 0}},
	} {
		f, k := begun(t, w.c)
		p := plain(w.c.Kind)
		p.Node = w.node
		if w.late[1] > 0 {
			p.Span = 10
		}
		h := opens(t, f, p)
		k.Set(1)
		for i, size := range []int{10, 11, 9} {
			takes(t, f, h, i, size)
			k.Step(30)
			if s := looks(t, f); s.Flows[0].Late != w.late[i] {
				t.Fatalf("%+v behind %d bytes: %d late, want %d", w, size, s.Flows[0].Late, w.late[i])
			}
		}
	}
}

// 19.8: a delay of each length, of one flow alone and of all.
func TestDelaysOfAllLengths(t *testing.T) {
	c := confOf(api.WFQ)
	c.Most, c.Room = 65536, 1<<30
	f, k := begun(t, c)
	p := plain(api.WFQ)
	p.Rate, p.Burst = 1<<20, 1<<40
	h := opens(t, f, p)
	want := []int{0}
	for size := 1; size <= 65536; size *= 2 {
		want = append(want, 0)
		for _, d := range []int{size, 2*size - 1} {
			if d > 65536 || size == 1 && d == want[1] {
				continue
			}
			k.Step(1)
			takes(t, f, h, d, d)
			k.Step(d)
			f.Poll()
			want[len(want)-1]++
			s := looks(t, f)
			same(t, "the delays", all(s.Flows[0].Delays, s.Delays), all(want, want))
		}
	}
}

// 19.8: the part of the ticks that bytes were sent in, and how even the open flows' shares are.
func TestShares(t *testing.T) {
	c := confOf(api.DRR)
	c.Flows = 4
	f, k := begun(t, c)
	p := plain(api.DRR)
	for _, p.Weight = range []int{1, 2, 4} {
		opens(t, f, p)
	}
	if g := looks(t, f).Gauge; g != (api.Gauge{Fairness: 1}) {
		t.Fatalf("of nothing at 0: %+v", g)
	}
	k.Set(100)
	if g := looks(t, f).Gauge; g != (api.Gauge{Fairness: 1}) {
		t.Fatalf("of nothing at 100: %+v", g)
	}
	for slot, size := range []int{10, 20, 40} {
		takes(t, f, handle(slot, 1), 0, size)
	}
	for _, w := range []struct {
		at              int
		share, fairness float64
	}{
		{109, 0, 1}, {110, 10.0 / 110, 1.0 / 3}, {130, 30.0 / 130, 2.0 / 3}, {169, 30.0 / 169, 2.0 / 3}, {170, 70.0 / 170, 1}, {700, 0.1, 1},
	} {
		k.Set(w.at)
		if g := looks(t, f).Gauge; g.Share != w.share || g.Fairness != w.fairness {
			t.Fatalf("at %d: %+v, want %+v", w.at, g, w)
		}
	}
	// A new one has sent nothing, and one that is closed counts no more.
	opens(t, f, plain(api.DRR))
	if g := looks(t, f).Gauge; g.Fairness != 0.75 || g.Share != 0.1 {
		t.Fatalf("with a new one: %+v", g)
	}
	f.Close(handle(0, 1))
	if g := looks(t, f).Gauge; g.Fairness != 2.0/3 || g.Share != 0.1 {
		t.Fatalf("with one less: %+v", g)
	}
}

// 19.8: tokens are told near of what they are, at the effective time.
func TestTokens(t *testing.T) {
	f, k := begun(t, confOf(api.WFQ))
	p := plain(api.WFQ)
	p.Burst, p.Rate, p.Per = 10, 0.1, 3
	opens(t, f, p)
	for _, w := range []struct {
		at     int
		tokens float64
	}{{0, 0}, {1, 0.1 / 3}, {30, 1}, {29, 1}, {299, 29.9 / 3}, {300, 10}, {1 << 62, 10}} {
		k.Set(w.at)
		if s := looks(t, f); math.Abs(s.Flows[0].Tokens-w.tokens) > 1e-14 || s.Flows[0].Tokens > 10 {
			t.Fatalf("at %d: %v tokens, want %v", w.at, s.Flows[0].Tokens, w.tokens)
		}
	}
}

// 19.9
func TestDue(t *testing.T) {
	for _, kind := range kinds {
		f, k := begun(t, confOf(kind))
		h := opens(t, f, plain(kind))
		due := func(what string, want int, is bool) {
			t.Helper()
			at, ok, e := f.Due()
			same(t, what, all(at, ok, e), all(want, is, api.OK))
		}
		due("of nothing", 0, false)
		k.Set(30)
		due("of nothing, later", 0, false)
		takes(t, f, h, 1, 10)
		due("of one that came", 30, true)
		k.Set(7)
		due("of one that came, at a reading back", 30, true)
		polls(t, f)
		due("of one on the link", 40, true)
		takes(t, f, h, 2, 10)
		due("with another behind it", 40, true)
		k.Set(39)
		due("ahead of its stamp", 40, true)
		k.Set(40)
		due("at its stamp, with another there", 40, true)
		k.Set(41)
		due("behind it", 50, true)
		f.Close(h)
		due("of a closed flow", 50, true)
		k.Set(50)
		due("of all gone", 0, false)
	}
}

// 19.9
func TestWait(t *testing.T) {
	f, k := begun(t, confOf(api.AGE))
	p := plain(api.AGE)
	p.Burst, p.Rate, p.Per = 30, 1, 3
	never := p
	never.Rate = 0
	h, g := opens(t, f, p), opens(t, f, never)
	wait := func(h api.Handle, size, want int, is api.Errno) {
		t.Helper()
		at, e := f.Wait(h, size)
		same(t, "Wait", all(at, e), all(want, is))
	}
	wait(h, 1, 3, api.OK)
	wait(h, 30, 90, api.OK)
	wait(h, 31, 0, api.ErrPoliced)
	wait(g, 1, 0, api.ErrPoliced)
	wait(h, 51, 0, api.ErrSize)
	wait(g, 51, 0, api.ErrSize)
	wait(h, 0, 0, api.ErrSize)
	k.Set(10)
	wait(h, 3, 10, api.OK)
	wait(h, 4, 12, api.OK)
	k.Set(5)
	wait(h, 1, 10, api.OK)
	wait(h, 4, 12, api.OK)
	k.Set(20)
	takes(t, f, h, 0, 4)
	wait(h, 1, 20, api.OK)
	wait(h, 2, 20, api.OK)
	wait(h, 3, 21, api.OK)
	k.Set(1 << 62)
	wait(h, 30, 1<<62, api.OK)
	takes(t, f, h, 0, 1)
	wait(h, 29, 1<<62, api.OK)
	wait(h, 30, 0, api.ErrPoliced)
	f.Close(h)
	wait(h, 30, 0, api.ErrHandle)
}

// 19.9: rates that are nearly nothing, and the last tick.
func TestWaitAtTheEnd(t *testing.T) {
	f, e := fair.New(confOf(api.AGE), clock.NewFake(1))
	is(t, "New", e, api.OK)
	p := plain(api.AGE)
	for _, w := range []struct {
		rate float64
		size int
		at   int
		is   api.Errno
	}{
		{math.Ldexp(1, -61), 1, 1<<61 + 1, api.OK},
		{math.Ldexp(1, -61), 2, 0, api.ErrPoliced},
		{math.Ldexp(1, -62), 1, 0, api.ErrPoliced},
		{math.SmallestNonzeroFloat64, 1, 0, api.ErrPoliced},
		{1 << 20, 50, 2, api.OK},
	} {
		p.Rate = w.rate
		h := opens(t, f, p)
		at, e := f.Wait(h, w.size)
		same(t, "Wait", all(at, e), all(w.at, w.is))
		f.Close(h)
	}
}
