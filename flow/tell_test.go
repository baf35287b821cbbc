package flow_test

import (
	"math"
	"slices"
	"testing"

	"millrace/api"
	"millrace/flow"
)

// 10.7

func TestTellTellsAll(t *testing.T) {
	x := tableOf(t, aged(2))
	p := api.Params{Weight: 7, Class: 15, Burst: 45, Rate: 0.75, Per: 2}
	opens(t, x, byTheTick(), 0)
	h := opens(t, x, p, 10)
	one, two := admits(t, x, h, 6, 90), admits(t, x, h, 7, 91)
	x.Refuse(h, 3)
	f, e := x.Tell(h, 92)
	want := api.Flow{Handle: handle(1, 1), Params: p, Tokens: 30 + 0.75 - 13, Queue: []api.Packet{one, two},
		Counters: api.Counters{Offered: count(3, 16), Refused: count(1, 3), Queued: count(2, 13)}}
	if !sameFlow(f, want) || e != api.OK {
		t.Fatalf("Tell: %+v %v, want %+v", f, e, want)
	}
	if c, e := x.Books(h); c != want.Counters || e != api.OK {
		t.Fatalf("Books: %+v %v", c, e)
	}
}

// What is told as a number is near of the exact tokens, and +0 of none.
func TestTokensAreNear(t *testing.T) {
	for _, c := range []struct {
		burst          int
		rate           float64
		per, at, taken int
		want           float64
	}{
		{60, 1, 3, 1, 0, 1.0 / 3},
		{60, 1, 3, 7, 0, 7.0 / 3},
		{60, 0.1, 1, 1, 0, 0.1},
		{60, 0.1, 1, 10, 0, 1},
		{60, 0.1, 1, 10, 1, 0x1p-54},
		{60, 0x1p-1074, 1, 1, 0, 0x1p-1074},
		{60, 0x1p-1074, 2, 1, 0, 0},
		{60, 0x1p-1074, 3, 2, 0, 0x1p-1074},
		{60, math.Copysign(0, -1), 1, 9, 0, 0},
		{60, 1, 1, 60, 60, 0},
		{1 << 40, 1 << 20, 1, lastTick + 1, 0, 1 << 40},
	} {
		p := api.Params{Weight: 1, Burst: c.burst, Rate: c.rate, Per: c.per}
		conf := aged(1)
		conf.Most = 60
		x := tableOf(t, conf)
		h := opens(t, x, p, 0)
		if c.taken > 0 {
			admits(t, x, h, c.taken, c.at)
		}
		f, e := x.Tell(h, c.at)
		if api.Bits(f.Tokens) != api.Bits(c.want) || e != api.OK {
			t.Errorf("%+v at %d: %x, want %x", p, c.at, f.Tokens, c.want)
		}
	}
}

// The parameters are told as they were handed in: of a Rate of -0 the sign too.
func TestParamsAsTheyWere(t *testing.T) {
	n := noise(107)
	for _, c := range kinds(256) {
		x := tableOf(t, c)
		var all []api.Params
		for range 256 {
			p := flowOf(&n, c)
			opens(t, x, p, n.below(1000))
			all = append(all, p)
		}
		i := 0
		for f := range x.All(2000) {
			if f.Params != all[i] || api.Bits(f.Params.Rate) != api.Bits(all[i].Rate) || f.Handle != handle(i, 1) {
				t.Fatalf("%+v, want %+v", f, all[i])
			}
			i++
		}
		if i != 256 {
			t.Fatalf("All: %d flows", i)
		}
	}
}

// through goes through all flows.
func through(x *flow.Table, at int) {
	for range x.All(at) {
	}
}

// Tell and All hand their tick to the buckets that they ask; a table that is not ranged over is not asked.
func TestTellingHandsTheTick(t *testing.T) {
	for _, c := range []struct {
		tell func(x *flow.Table)
		a, b float64
	}{
		{func(x *flow.Table) { x.Tell(handle(0, 1), 9) }, 9, 0},
		{func(x *flow.Table) { x.Tell(handle(1, 1), lastTick+1) }, 0, 60},
		{func(x *flow.Table) { x.Tell(handle(0, 2), 9) }, 0, 0},
		{func(x *flow.Table) { x.All(9) }, 0, 0},
		{func(x *flow.Table) { through(x, 9) }, 9, 9},
		{func(x *flow.Table) { through(x, math.MaxInt) }, 60, 60},
		{func(x *flow.Table) { through(x, 9); through(x, 4) }, 9, 9},
		{func(x *flow.Table) { x.Books(handle(0, 1)); x.Total(); x.Weight(); x.Len(); x.Seq() }, 0, 0},
	} {
		x := tableOf(t, aged(2))
		a, b := opens(t, x, byTheTick(), 0), opens(t, x, byTheTick(), 0)
		c.tell(x)
		has(t, "the one", x, a, c.a)
		has(t, "the other", x, b, c.b)
	}
}

// three is a table of three flows, of which each has packets queued, and its model.
func three(t *testing.T) (*flow.Table, *model) {
	t.Helper()
	x, m := tableOf(t, aged(4)), modelOf(aged(4))
	for i := range 3 {
		h := opens(t, x, byTheTick(), i)
		m.open(byTheTick(), i)
		for size := range i + 2 {
			admits(t, x, h, size+1, 50)
			m.admit(h, 0, size+1, 50)
		}
	}
	return x, m
}

// Each range of All gives what the table held when it began, whatever is done in its body.
func TestAllWhateverIsDone(t *testing.T) {
	for _, do := range []func(x *flow.Table, f api.Flow){
		func(x *flow.Table, f api.Flow) { x.Evict(handle(2, 1)) },
		func(x *flow.Table, f api.Flow) { x.Close(handle(2, 1)) },
		func(x *flow.Table, f api.Flow) { x.Close(f.Handle) },
		func(x *flow.Table, f api.Flow) { x.Open(byTheTick(), 50) },
		func(x *flow.Table, f api.Flow) { x.Close(handle(1, 1)); x.Open(byTheTick(), 50) },
		func(x *flow.Table, f api.Flow) { x.Admit(handle(2, 1), 9, 20, 60) },
		func(x *flow.Table, f api.Flow) { x.Refuse(handle(1, 1), 20) },
		func(x *flow.Table, f api.Flow) { x.Look(handle(2, 1), 1, 70) },
		func(x *flow.Table, f api.Flow) { x.Begin(handle(2, 1)); x.Left() },
		func(x *flow.Table, f api.Flow) { x.Begin(handle(1, 1)) },
		func(x *flow.Table, f api.Flow) { through(x, 80) },
		func(x *flow.Table, f api.Flow) { scribble(f.Queue) },
	} {
		x, m := three(t)
		want := m.all(55)
		i := 0
		for f := range x.All(55) {
			if i >= len(want) || !sameFlow(f, want[i]) {
				t.Fatalf("flow number %d of the range: %+v, want %+v", i, f, want[i:])
			}
			do(x, f)
			i++
		}
		if i != len(want) {
			t.Fatalf("%d flows, want %d", i, len(want))
		}
	}
}

// What All answered may be ranged over again, also within its own loop, and tells the table as it is then.
func TestAllAgain(t *testing.T) {
	x, m := three(t)
	all := x.All(55)
	inner := 0
	for range all {
		for f := range all {
			if f.Handle.Slot != inner%3 {
				t.Fatalf("within its own loop: %v", f.Handle)
			}
			inner++
		}
	}
	if inner != 9 {
		t.Fatalf("%d flows within", inner)
	}
	x.Evict(handle(1, 1))
	m.evict(handle(1, 1))
	x.Close(handle(0, 1))
	m.close(handle(0, 1))
	if got, want := slices.Collect(all), m.all(55); !slices.EqualFunc(got, want, sameFlow) {
		t.Fatalf("again: %+v, want %+v", got, want)
	}
	agrees(t, "behind it", x, m)
}

// A range that is left early has told what it told; all buckets had their tick when it began.
func TestAllLeftEarly(t *testing.T) {
	x, m := three(t)
	told := 0
	for f := range x.All(57) {
		if f.Handle != handle(told, 1) {
			t.Fatalf("%v", f.Handle)
		}
		if told++; told == 2 {
			break
		}
	}
	m.all(57)
	agrees(t, "behind it", x, m)
	for range tableOf(t, aged(1)).All(0) {
		t.Fatal("a table without flows tells one")
	}
}

// The lists of one answer share nothing, nor those of two.
func TestToldQueuesAreApart(t *testing.T) {
	x, m := three(t)
	first, second := slices.Collect(x.All(55)), slices.Collect(x.All(55))
	one, _ := x.Tell(handle(2, 1), 55)
	want := m.all(55)
	for i := range first {
		scribble(first[i].Queue)
		for j := i + 1; j < len(first); j++ {
			if !sameFlow(first[j], want[j]) {
				t.Fatalf("of one answer: %+v, want %+v", first[j], want[j])
			}
		}
	}
	if !slices.EqualFunc(second, want, sameFlow) || !sameFlow(one, want[2]) {
		t.Fatalf("of others: %+v %+v, want %+v", second, one, want)
	}
	scribble(one.Queue)
	agrees(t, "behind it", x, m)
	gone, _, _ := x.Close(handle(2, 1))
	if !slices.Equal(gone, want[2].Queue) || !slices.EqualFunc(second, want, sameFlow) {
		t.Fatalf("Close: %v, want %v", gone, want[2].Queue)
	}
	m.close(handle(2, 1))
	scribble(gone)
	if !slices.EqualFunc(second, want, sameFlow) {
		t.Fatalf("of others: %+v, want %+v", second, want)
	}
	agrees(t, "at last", x, m)
}
