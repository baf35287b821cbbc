package due_test

import (
	"math"
	"slices"
	"testing"

	"millrace/api"
	"millrace/due"
)

var a, b, c = api.Handle{Slot: 0, Gen: 1}, api.Handle{Slot: 1, Gen: 1}, api.Handle{Slot: 2, Gen: 1}

// odd are ints that no call must stumble over.
var odd = []int{math.MinInt, math.MinInt + 1, -1, 0, 1, 2, 15, 16, 65536, 65537, 1 << 40, 1<<40 + 1, 1 << 62, 1<<62 + 1, math.MaxInt - 1, math.MaxInt}

func pk(h api.Handle, size, seq, came int) api.Packet {
	return api.Packet{Flow: h, Size: size, Seq: seq, Came: came}
}

func is(t *testing.T, what string, got, want api.Errno) {
	t.Helper()
	if got != want {
		t.Fatalf("%s: %d, want %d", what, got, want)
	}
}

// reads holds a number that stands beside an error, or beside nothing, against what it should be.
func reads[E comparable](t *testing.T, what string, got int, e E, want int, wantE E) {
	t.Helper()
	if got != want || e != wantE {
		t.Fatalf("%s: %d %v, want %d %v", what, got, e, want, wantE)
	}
}

// numbers holds a list of packets against their numbers.
func numbers(t *testing.T, what string, l []api.Packet, e api.Errno, want ...int) {
	t.Helper()
	is(t, what, e, api.OK)
	var got []int
	for _, p := range l {
		got = append(got, p.Seq)
	}
	if !slices.Equal(got, want) {
		t.Fatalf("%s: %v, want %v", what, got, want)
	}
}

// refuses holds an error against the one that it should be, and looks that nothing stands beside it.
func refuses(t *testing.T, what string, l []api.Packet, e, want api.Errno) {
	t.Helper()
	if e != want || len(l) != 0 {
		t.Fatalf("%s: %v %d, want %d", what, l, e, want)
	}
}

// tells holds a packet against its number, 0 being none.
func tells(t *testing.T, what string, p api.Packet, ok bool, seq int) {
	t.Helper()
	if p.Seq != seq || ok != (seq > 0) || !ok && p != (api.Packet{}) {
		t.Fatalf("%s: %v %v, want %d", what, p, ok, seq)
	}
}

// next holds what Next tells against its number, ahead of it what Peek tells, and First against the tick of that.
func next(t *testing.T, d queue, seq, first int) {
	t.Helper()
	at, ok := d.First()
	reads(t, "First", at, ok, first, seq > 0)
	p, ok := d.Peek(0)
	tells(t, "Peek", p, ok, seq)
	p, ok = d.Next(0)
	tells(t, "Next", p, ok, seq)
}

// opened joins a flow for each of these, from A on.
func opened(t *testing.T, d queue, l ...api.Params) {
	t.Helper()
	for slot, p := range l {
		is(t, "Join", d.Join(api.Handle{Slot: slot, Gen: 1}, p, 0), api.OK)
	}
}

// fed admits these packets.
func fed(t *testing.T, d queue, l ...api.Packet) {
	t.Helper()
	for _, p := range l {
		is(t, "Admit", d.Admit(p), api.OK)
	}
}

// The flows and the packets of the chapter's examples.
func exampleOf(t *testing.T, d queue) {
	t.Helper()
	opened(t, d, api.Params{Span: 10}, api.Params{Span: 3, Class: 2})
	fed(t, d, pk(a, 5, 1, 0), pk(b, 5, 2, 4))
}

// The chapter's table.
func TestExampleEDF(t *testing.T) {
	q := due.NewEDF()
	exampleOf(t, q)
	k, e := q.Deadline(pk(a, 1, 9, 4))
	reads(t, "Deadline", k, e, 14, api.OK)
	k, e = q.Deadline(pk(c, 1, 9, 4))
	reads(t, "Deadline of a flow that is not open", k, e, 0, api.ErrHandle)
	k, e = q.Deadline(pk(a, 1, 9, -1))
	reads(t, "Deadline of one that came ahead of 0", k, e, 0, api.ErrArg)
	for _, x := range []struct{ t, want int }{{math.MinInt, 0}, {0, 0}, {7, 0}, {8, 1}, {10, 1}, {11, 2}, {math.MaxInt, 2}} {
		if got := q.Late(x.t); got != x.want {
			t.Errorf("Late(%d): %d, want %d", x.t, got, x.want)
		}
	}
	next(t, q, 2, 7)
	next(t, q, 1, 10)
	next(t, q, 0, 0)
}

// What the chapter says below its table.
func TestExampleAge(t *testing.T) {
	q := due.NewAge(10)
	exampleOf(t, q)
	k, e := q.Key(pk(b, 1, 9, 4))
	reads(t, "Key", k, e, 24, api.OK)
	l, e := q.Plan(pk(a, 1, 3, 25), 5)
	refuses(t, "Plan of one with a greater key", l, e, api.ErrRefused)
	l, e = q.Plan(pk(a, 1, 3, 23), 5)
	numbers(t, "Plan of one with a lesser key", l, e, 2)
	l, e = q.Plan(pk(a, 1, 3, 23), 6)
	refuses(t, "Plan for more", l, e, api.ErrRefused)
	l, e = q.Plan(pk(a, 1, 3, 24), 5)
	refuses(t, "Plan of one with the same key", l, e, api.ErrRefused)
	next(t, q, 1, 0)
	next(t, q, 2, 24)
	next(t, q, 0, 0)
}

// 16.1: a new one has no flow and no packet, and nothing in common with another one.
func TestNew(t *testing.T) {
	for _, k := range kinds {
		t.Run(k.name, func(t *testing.T) {
			x, y := k.make(), k.make()
			opened(t, x, api.Params{Weight: 3})
			fed(t, x, pk(a, 1, 1, 50))
			if y.Len() != 0 || y.Weight(0) != 0 {
				t.Fatalf("Len %d, Weight %d", y.Len(), y.Weight(0))
			}
			next(t, y, 0, 0)
			p, ok := y.Worst(0)
			tells(t, "Worst of none", p, ok, 0)
			is(t, "Admit without a flow", y.Admit(pk(a, 1, 1, 0)), api.ErrHandle)
			l, e := y.Leave(a, 0)
			refuses(t, "Leave without a flow", l, e, api.ErrHandle)
			opened(t, y, api.Params{Weight: 4})
			fed(t, y, pk(a, 1, 1, 0))
			next(t, y, 1, 0)
			next(t, x, 1, 50)
		})
	}
}

// 16.1, 16.2: what a step counts as, the greatest class being 15.
func TestStep(t *testing.T) {
	for _, x := range []struct{ step, want int }{{math.MinInt, 0}, {-1, 0}, {0, 0}, {1, 15}, {7, 105}, {1<<40 - 1, 15<<40 - 15}, {1 << 40, 15 << 40}, {1<<40 + 1, 15 << 40}, {math.MaxInt, 15 << 40}} {
		q := due.NewAge(x.step)
		opened(t, q, api.Params{Class: 15})
		k, e := q.Key(pk(a, 1, 1, 0))
		reads(t, "Key", k, e, x.want, api.OK)
		fed(t, q, pk(a, 1, 1, 0))
		next(t, q, 1, x.want)
	}
}

// 16.2: what a span counts as, and that it alone makes a deadline.
func TestSpan(t *testing.T) {
	for _, x := range []struct{ span, want int }{{math.MinInt, 0}, {-1, 0}, {0, 0}, {1, 1}, {1<<40 - 1, 1<<40 - 1}, {1 << 40, 1 << 40}, {1<<40 + 1, 1 << 40}, {math.MaxInt, 1 << 40}} {
		for _, came := range []int{0, 5, 1 << 62} {
			q := due.NewEDF()
			opened(t, q, api.Params{Span: x.span, Class: 3, Weight: 4, Quantum: 5})
			k, e := q.Deadline(pk(a, 1, 1, came))
			reads(t, "Deadline", k, e, came+x.want, api.OK)
			fed(t, q, pk(a, 1, 1, came))
			if n, m := q.Late(came+x.want), q.Late(came+x.want+1); n != 0 || m != 1 {
				t.Fatalf("Late: %d, %d", n, m)
			}
			next(t, q, 1, came+x.want)
		}
	}
}

// 16.2: what a class counts as, and that it alone makes an aged key.
func TestClass(t *testing.T) {
	for _, x := range []struct{ class, want int }{{math.MinInt, 0}, {-1, 0}, {0, 0}, {1, 100}, {14, 1400}, {15, 1500}, {16, 1500}, {math.MaxInt, 1500}} {
		for _, came := range []int{0, 5, 1 << 62} {
			q := due.NewAge(100)
			opened(t, q, api.Params{Class: x.class, Span: 3, Weight: 4, Quantum: 5})
			k, e := q.Key(pk(a, 1, 1, came))
			reads(t, "Key", k, e, came+x.want, api.OK)
			fed(t, q, pk(a, 1, 1, came))
			next(t, q, 1, came+x.want)
		}
	}
}

// 16.3: of a packet only its flow and the tick at which it came are looked at; a flow that is not open comes first.
func TestTickOfWhateverPacket(t *testing.T) {
	for _, k := range kinds {
		t.Run(k.name, func(t *testing.T) {
			d := k.make()
			opened(t, d, api.Params{Span: 7, Class: 1}, api.Params{})
			fed(t, d, pk(a, 5, 8, 20))
			own := k.tick(api.Params{Span: 7, Class: 1}, 0)
			for _, x := range []struct {
				p    api.Packet
				want int
				e    api.Errno
			}{
				{pk(a, 5, 8, 20), 20 + own, api.OK},
				{pk(a, 5, 9, 20), 20 + own, api.OK},
				{pk(a, 5, 9, 19), 19 + own, api.OK},
				{pk(a, 0, -1, 0), own, api.OK},
				{pk(a, math.MinInt, math.MinInt, 1<<62), 1<<62 + own, api.OK},
				{pk(a, math.MaxInt, math.MaxInt, 1), 1 + own, api.OK},
				{api.Packet{Flow: a, ID: -3, Came: 2}, 2 + own, api.OK},
				{pk(b, 1, 9, 20), 20, api.OK},
				{pk(a, 5, 9, -1), 0, api.ErrArg},
				{pk(a, 5, 9, 1<<62+1), 0, api.ErrArg},
				{pk(a, 5, 9, math.MaxInt), 0, api.ErrArg},
				{pk(a, 5, 9, math.MinInt), 0, api.ErrArg},
				{pk(c, 5, 9, 20), 0, api.ErrHandle},
				{pk(api.Handle{Slot: 0, Gen: 2}, 5, 9, 20), 0, api.ErrHandle},
				{pk(api.Handle{Slot: -1, Gen: 1}, 5, 9, 20), 0, api.ErrHandle},
				{pk(c, 5, 9, -1), 0, api.ErrHandle},
			} {
				at, e := asked(d, x.p)
				reads(t, "the tick of a packet", at, e, x.want, x.e)
			}
			d.Leave(a, 20)
			at, e := asked(d, pk(a, 5, 9, 20))
			reads(t, "the tick of a flow that left", at, e, 0, api.ErrHandle)
			is(t, "Join", d.Join(api.Handle{Slot: 0, Gen: 2}, api.Params{}, 0), api.OK)
			at, e = asked(d, pk(a, 5, 9, 20))
			reads(t, "the tick of a flow whose slot was given again", at, e, 0, api.ErrHandle)
			at, e = asked(d, pk(api.Handle{Slot: 0, Gen: 2}, 5, 9, 20))
			reads(t, "the tick of the new one", at, e, 20, api.OK)
		})
	}
}

// 16.4: of packets with one deadline the numbers settle it, at both ends.
func TestEqualDeadlines(t *testing.T) {
	q := due.NewEDF()
	opened(t, q, api.Params{Span: 10}, api.Params{Span: 4}, api.Params{Span: 0})
	fed(t, q, pk(a, 1, 1, 0), pk(b, 1, 2, 6), pk(b, 1, 3, 6), pk(c, 1, 4, 10), pk(a, 1, 5, 10))
	for n, want := range []int{5, 4, 3, 2, 1, 0} {
		p, ok := q.Worst(n)
		tells(t, "Worst", p, ok, want)
	}
	if n, m := q.Late(10), q.Late(11); n != 0 || m != 4 {
		t.Errorf("Late: %d, %d", n, m)
	}
	for _, want := range []int{1, 2, 3, 4} {
		next(t, q, want, 10)
	}
	next(t, q, 5, 20)
}

// 16.4: classes are levels only for a while.
func TestClassesAge(t *testing.T) {
	q := due.NewAge(10)
	opened(t, q, api.Params{Class: 0}, api.Params{Class: 1}, api.Params{Class: 3})
	fed(t, q, pk(c, 1, 1, 0), pk(b, 1, 2, 5), pk(a, 1, 3, 14), pk(a, 1, 4, 15), pk(a, 1, 5, 31))
	for _, x := range []struct{ seq, key int }{{3, 14}, {2, 15}, {4, 15}, {1, 30}, {5, 31}, {0, 0}} {
		next(t, q, x.seq, x.key)
	}
}

// 16.4: a First tells, and changes nothing.
func TestFirst(t *testing.T) {
	for _, k := range kinds {
		t.Run(k.name, func(t *testing.T) {
			d := k.make()
			opened(t, d, api.Params{}, api.Params{})
			fed(t, d, pk(a, 1, 1, 3), pk(b, 1, 2, 4), pk(a, 1, 3, 9))
			for _, want := range []int{3, 4, 9} {
				for range 3 {
					at, ok := d.First()
					reads(t, "First", at, ok, want, true)
				}
				d.Next(9)
			}
			at, ok := d.First()
			reads(t, "First of none", at, ok, 0, false)
			fed(t, d, pk(b, 1, 4, 12), pk(a, 1, 5, 13))
			is(t, "Evict", d.Evict(pk(b, 1, 4, 12)), api.OK)
			at, ok = d.First()
			reads(t, "First behind an eviction", at, ok, 13, true)
			d.Leave(a, 20)
			at, ok = d.First()
			reads(t, "First behind a Leave", at, ok, 0, false)
			// A packet that is none has the handle of this flow.
			is(t, "Join", d.Join(api.Handle{}, api.Params{Span: 5, Class: 5}, 0), api.OK)
			at, ok = d.First()
			reads(t, "First of none, with the flow of no packet open", at, ok, 0, false)
		})
	}
}

// 16.5: a packet is late by its deadline alone, whatever its size; what is queued no more is not counted.
func TestLate(t *testing.T) {
	q := due.NewEDF()
	opened(t, q, api.Params{Span: 5}, api.Params{Span: 100})
	if n := q.Late(math.MaxInt); n != 0 {
		t.Errorf("Late of none: %d", n)
	}
	fed(t, q, pk(a, 65536, 1, 0), pk(a, 1, 2, 0), pk(b, 1, 3, 0), pk(a, 1, 4, 90), pk(a, 1, 5, 95), pk(a, 1, 6, 200))
	counts := func(want ...int) {
		t.Helper()
		for i, at := range []int{math.MinInt, -1, 5, 6, 95, 96, 100, 101, 205, 206, math.MaxInt} {
			if n := q.Late(at); n != want[i] {
				t.Fatalf("Late(%d): %d, want %d", at, n, want[i])
			}
		}
	}
	counts(0, 0, 0, 2, 2, 3, 3, 5, 5, 6, 6)
	q.Next(0)
	counts(0, 0, 0, 1, 1, 2, 2, 4, 4, 5, 5)
	is(t, "Evict", q.Evict(pk(a, 1, 6, 200)), api.OK)
	counts(0, 0, 0, 1, 1, 2, 2, 4, 4, 4, 4)
	q.Leave(a, 0)
	counts(0, 0, 0, 0, 0, 0, 0, 1, 1, 1, 1)
}

// 16.6, 13.3: what may not come, in Admit and ahead of all else in Plan; what was refused leaves no number and no tick.
func TestWhatMayNotCome(t *testing.T) {
	for _, k := range kinds {
		t.Run(k.name, func(t *testing.T) {
			for _, x := range []struct {
				p    api.Packet
				want api.Errno
			}{
				{pk(c, 1, 6, 9), api.ErrHandle},
				{pk(c, 0, 0, -1), api.ErrHandle},
				{pk(api.Handle{Slot: 0, Gen: 2}, 1, 6, 9), api.ErrHandle},
				{pk(a, 0, 6, 9), api.ErrArg},
				{pk(a, -1, 6, 9), api.ErrArg},
				{pk(a, 65537, 6, 9), api.ErrArg},
				{pk(a, 1, 5, 9), api.ErrArg},
				{pk(b, 1, 4, 9), api.ErrArg},
				{pk(a, 1, 0, 9), api.ErrArg},
				{pk(a, 1, math.MinInt, 9), api.ErrArg},
				{pk(a, 1, 6, 8), api.ErrArg},
				{pk(b, 1, 6, -1), api.ErrArg},
				{pk(a, 1, 6, 1<<62+1), api.ErrArg},
				{pk(a, 1, 6, math.MaxInt), api.ErrArg},
				{pk(a, 1, 6, 9), api.OK},
				{pk(b, 65536, math.MaxInt, 1<<62), api.OK},
			} {
				d := k.make()
				opened(t, d, api.Params{Span: 4, Class: 2}, api.Params{})
				fed(t, d, pk(b, 1, 2, 3), pk(b, 1, 5, 9))
				d.Next(20)
				is(t, "Evict", d.Evict(pk(b, 1, 5, 9)), api.OK)
				l, e := d.Plan(x.p, 0)
				refuses(t, "Plan for nothing", l, e, x.want)
				refused := x.want
				if refused == api.OK {
					refused = api.ErrRefused
				}
				l, e = d.Plan(x.p, 1)
				refuses(t, "Plan", l, e, refused)
				is(t, "Admit", d.Admit(x.p), x.want)
				if got := d.Len() == 1; got != (x.want == api.OK) {
					t.Fatalf("%v: Len %d", x.p, d.Len())
				}
				if x.want != api.OK {
					fed(t, d, pk(a, 1, 6, 9))
				}
			}
		})
	}
}

// 16.6: chapter 13's other calls.
func TestAsAnyDiscipline(t *testing.T) {
	for _, k := range kinds {
		t.Run(k.name, func(t *testing.T) {
			d := k.make()
			opened(t, d, api.Params{Weight: 2}, api.Params{Weight: 3})
			is(t, "Join again", d.Join(a, api.Params{}, 0), api.ErrHandle)
			is(t, "Join at A's slot", d.Join(api.Handle{Slot: 0, Gen: 2}, api.Params{Weight: 9}, 0), api.ErrHandle)
			fed(t, d, pk(a, 4, 1, 0), pk(b, 2, 2, 1), pk(a, 4, 3, 2), pk(b, 3, 4, 3))
			for _, p := range []api.Packet{pk(a, 4, 1, 0), pk(b, 2, 2, 1), pk(a, 4, 4, 2), pk(c, 4, 3, 2), {}} {
				is(t, "Evict", d.Evict(p), api.ErrItem)
			}
			p := pk(a, 1, 5, 3)
			l, e := d.Plan(p, 1)
			refuses(t, "Plan of the last one", l, e, api.ErrRefused)
			if d.Len() != 4 || d.Weight(5) != 5 {
				t.Fatalf("Len %d, Weight %d", d.Len(), d.Weight(5))
			}
			is(t, "Evict of the last", d.Evict(pk(a, 4, 3, 2)), api.OK)
			l, e = d.Leave(b, 0)
			numbers(t, "Leave", l, e, 2, 4)
			l, e = d.Leave(b, 0)
			refuses(t, "Leave again", l, e, api.ErrHandle)
			if d.Len() != 1 || d.Weight(5) != 2 {
				t.Fatalf("Len %d, Weight %d", d.Len(), d.Weight(5))
			}
			for _, n := range []int{math.MinInt, -1, 1, math.MaxInt} {
				p, ok := d.Worst(n)
				tells(t, "Worst of none", p, ok, 0)
			}
		})
	}
}
