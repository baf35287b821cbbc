package wfq_test

import (
	"math"
	"math/big"
	"slices"
	"testing"

	"millrace/api"
	"millrace/rat"
	"millrace/wfq"
)

var a, b, c = api.Handle{Slot: 0, Gen: 1}, api.Handle{Slot: 1, Gen: 1}, api.Handle{Slot: 2, Gen: 1}

func pk(h api.Handle, size, seq, came int) api.Packet {
	return api.Packet{Flow: h, Size: size, Seq: seq, Came: came}
}

// opened lets A, B, .. be joined with these weights, at the tick 0.
func opened(t *testing.T, d queue, weights ...int) {
	t.Helper()
	for i, w := range weights {
		is(t, "Join", d.Join([]api.Handle{a, b, c}[i], api.Params{Weight: w}, 0), api.OK)
	}
}

// fed admits packets.
func fed(t *testing.T, d queue, l ...api.Packet) {
	t.Helper()
	for _, p := range l {
		is(t, "Admit", d.Admit(p), api.OK)
	}
}

// numbers holds a list of packets against their numbers.
func numbers(t *testing.T, what string, l []api.Packet, e api.Errno, want ...int) {
	t.Helper()
	is(t, what, e, api.OK)
	var got []int
	for _, p := range l {
		got = append(got, p.Seq)
	}
	if !slices.Equal(got, want) {
		t.Fatalf("%s: %v, want %v", what, got, want)
	}
}

// refuses holds an error of Plan or Leave against the one that it should be, and looks that nothing stands beside it.
func refuses(t *testing.T, what string, l []api.Packet, e, want api.Errno) {
	t.Helper()
	if e != want || len(l) != 0 {
		t.Fatalf("%s: %v %d, want %d", what, l, e, want)
	}
}

// tells holds a packet against its number, 0 being none.
func tells(t *testing.T, what string, p api.Packet, ok bool, seq int) {
	t.Helper()
	if p.Seq != seq || ok != (seq > 0) || !ok && p != (api.Packet{}) {
		t.Fatalf("%s: %v %v, want %d", what, p, ok, seq)
	}
}

// reads holds a fraction against its text.
func reads(t *testing.T, what string, r rat.Rat, want string) {
	t.Helper()
	if text(r) != want {
		t.Fatalf("%s: %s, want %s", what, text(r), want)
	}
}

// tagged holds a packet's start and tag against their texts.
func tagged(t *testing.T, d queue, p api.Packet, start, tag string) {
	t.Helper()
	s, f, e := d.Tags(p)
	is(t, "Tags", e, api.OK)
	reads(t, "the start", s, start)
	reads(t, "the tag", f, tag)
}

// refused asks all three calls that a packet is handed to, and looks that nothing stands beside their error.
func refused(t *testing.T, d queue, p api.Packet, want api.Errno) {
	t.Helper()
	s, f, e := d.Tags(p)
	is(t, "Tags", e, want)
	reads(t, "the start", s, "0/1")
	reads(t, "the tag", f, "0/1")
	for _, need := range []int{math.MinInt, 0, 1, math.MaxInt} {
		l, e := d.Plan(p, need)
		refuses(t, "Plan", l, e, want)
	}
	is(t, "Admit", d.Admit(p), want)
}

// The chapter's table.
func TestExampleWFQ(t *testing.T) {
	var d queue = wfq.New()
	opened(t, d, 1, 3)
	fed(t, d, pk(a, 10, 1, 0), pk(b, 10, 2, 0))
	if w := d.Weight(0); w != 4 {
		t.Fatalf("Weight %d", w)
	}
	tagged(t, d, pk(a, 5, 3, 0), "10/1", "15/1")
	tagged(t, d, pk(b, 2, 3, 0), "10/3", "4/1")
	p, ok := d.Next(0)
	tells(t, "Next", p, ok, 2)
	reads(t, "Virtual", d.Virtual(4), "1/1")
	reads(t, "Fluid", d.Fluid(4), "16/1")
	l, e := d.Plan(pk(a, 5, 3, 4), 5)
	refuses(t, "Plan for A", l, e, api.ErrRefused)
	l, e = d.Plan(pk(b, 2, 3, 4), 5)
	numbers(t, "Plan for B", l, e, 1)
	l, e = d.Leave(a, 4)
	numbers(t, "Leave", l, e, 1)
	if v, w := d.Weight(4), d.Weight(20); v != 4 || w != 3 {
		t.Fatalf("Weight %d, %d", v, w)
	}
	reads(t, "Virtual", d.Virtual(20), "0/1")
	reads(t, "Fluid", d.Fluid(20), "0/1")
}

// The chapter's second example.
func TestExampleWF2(t *testing.T) {
	for k, want := range [][]int{{1, 2, 3}, {1, 3, 2}} {
		d := kinds[k].make()
		opened(t, d, 1, 1)
		fed(t, d, pk(a, 2, 1, 0), pk(a, 2, 2, 0), pk(b, 6, 3, 0))
		for i, tick := range []int{0, 2, 8} {
			p, ok := d.Peek(tick)
			tells(t, "Peek", p, ok, want[i])
			p, ok = d.Next(tick)
			tells(t, "Next", p, ok, want[i])
		}
	}
}

// 14.1
func TestNew(t *testing.T) {
	each(t, func(t *testing.T, d queue, begun bool) {
		p, ok := d.Next(0)
		tells(t, "Next", p, ok, 0)
		p, ok = d.Peek(0)
		tells(t, "Peek", p, ok, 0)
		p, ok = d.Worst(0)
		tells(t, "Worst", p, ok, 0)
		if d.Len() != 0 || d.Weight(0) != 0 {
			t.Fatalf("Len %d, Weight %d", d.Len(), d.Weight(0))
		}
		reads(t, "Virtual", d.Virtual(9), "0/1")
		reads(t, "Fluid", d.Fluid(9), "0/1")
		refused(t, d, pk(a, 1, 1, 9), api.ErrHandle)
		l, e := d.Leave(a, 9)
		refuses(t, "Leave", l, e, api.ErrHandle)
		is(t, "Evict", d.Evict(pk(a, 1, 1, 9)), api.ErrItem)
	})
}

// 14.1
func TestTwoHaveNothingInCommon(t *testing.T) {
	all := []queue{wfq.New(), wfq.New(), wfq.New2(), wfq.New2()}
	for _, d := range all {
		is(t, "Join", d.Join(a, api.Params{Weight: 2}, 0), api.OK)
		fed(t, d, pk(a, 10, 1, 0))
		d.Virtual(5)
		d.Join(b, api.Params{Weight: 5}, 5)
		fed(t, d, pk(b, 1, 2, 5))
		if d.Len() != 2 || d.Weight(5) != 7 {
			t.Fatalf("Len %d, Weight %d", d.Len(), d.Weight(5))
		}
		reads(t, "Fluid", d.Fluid(5), "6/1")
		reads(t, "Virtual", d.Virtual(5), "5/2")
	}
}

// 14.2: weights out of bounds count as the bound.
func TestWeightsAreBounded(t *testing.T) {
	for weight, counts := range map[int]int{math.MinInt: 1, -1: 1, 0: 1, 1: 1, 2: 2, 4095: 4095, 4096: 4096, 4097: 4096, math.MaxInt: 4096} {
		each(t, func(t *testing.T, d queue, begun bool) {
			opened(t, d, weight)
			tagged(t, d, pk(a, 1, 1, 0), "0/1", big.NewRat(1, int64(counts)).String())
			if w := d.Weight(0); w != counts {
				t.Errorf("the weight %d counts %d, before a packet", weight, w)
			}
			fed(t, d, pk(a, 65536, 1, 0))
			if w := d.Weight(1); w != counts {
				t.Errorf("the weight %d counts %d, with a packet", weight, w)
			}
			reads(t, "Virtual", d.Virtual(1), big.NewRat(1, int64(counts)).String())
			d.Leave(a, 1)
			if w := d.Weight(1); w != counts {
				t.Errorf("the weight %d counts %d behind Leave", weight, w)
			}
		})
	}
}

// 14.2: what is evicted or left behind stays in the fluid.
func TestWhatGoesStaysInTheFluid(t *testing.T) {
	each(t, func(t *testing.T, d queue, begun bool) {
		opened(t, d, 1, 1, 2)
		fed(t, d, pk(a, 10, 1, 0), pk(b, 10, 2, 0), pk(c, 20, 3, 0), pk(c, 4, 4, 0))
		is(t, "Evict", d.Evict(pk(b, 10, 2, 0)), api.OK)
		is(t, "Evict", d.Evict(pk(c, 4, 4, 0)), api.OK)
		reads(t, "Fluid behind Evict", d.Fluid(4), "40/1")
		reads(t, "Virtual behind Evict", d.Virtual(4), "1/1")
		tagged(t, d, pk(b, 5, 5, 4), "10/1", "15/1")
		tagged(t, d, pk(c, 5, 5, 4), "12/1", "29/2")
		d.Leave(a, 4)
		reads(t, "Fluid behind Leave", d.Fluid(8), "36/1")
		reads(t, "Virtual behind Leave", d.Virtual(8), "2/1")
		d.Next(8)
		reads(t, "Fluid behind Next", d.Fluid(8), "36/1")
		reads(t, "Virtual behind Next", d.Virtual(40), "10/1")
		reads(t, "Fluid at its end", d.Fluid(43), "1/1")
		reads(t, "Fluid behind its end", d.Fluid(44), "0/1")
	})
}

// 14.2, 14.5: a flow that is joined anew is another one to the fluid, also with the same handle and another weight.
func TestJoinedAnew(t *testing.T) {
	for _, h := range []api.Handle{a, {Slot: 0, Gen: 2}} {
		each(t, func(t *testing.T, d queue, begun bool) {
			opened(t, d, 1, 3)
			fed(t, d, pk(a, 10, 1, 0), pk(b, 30, 2, 0))
			d.Leave(a, 4)
			is(t, "Join", d.Join(h, api.Params{Weight: 2}, 4), api.OK)
			if w := d.Weight(4); w != 6 {
				t.Fatalf("Weight %d: the old one, the new one and B", w)
			}
			tagged(t, d, pk(h, 10, 3, 4), "1/1", "6/1")
			fed(t, d, pk(h, 10, 3, 4))
			reads(t, "Virtual", d.Virtual(10), "2/1")
			if w := d.Weight(10); w != 6 {
				t.Fatalf("Weight %d: each counts once", w)
			}
			d.Leave(h, 10)
			is(t, "Join", d.Join(h, api.Params{Weight: 1}, 10), api.OK)
			if w := d.Weight(10); w != 7 {
				t.Fatalf("Weight %d: two that left, a new one and B", w)
			}
			if w := d.Weight(60); w != 4 {
				t.Fatalf("Weight %d behind the fluid's end", w)
			}
		})
	}
}

// calls are those that have a tick, each once in a form that is answered and once in one that is refused.
func calls() map[string]func(d queue, tick int) {
	other := api.Handle{Slot: 9, Gen: 9}
	return map[string]func(d queue, tick int){
		"Join":          func(d queue, tick int) { d.Join(c, api.Params{}, tick) },
		"Join refused":  func(d queue, tick int) { d.Join(a, api.Params{}, tick) },
		"Leave":         func(d queue, tick int) { d.Leave(b, tick) },
		"Leave refused": func(d queue, tick int) { d.Leave(other, tick) },
		"Next":          func(d queue, tick int) { d.Next(tick) },
		"Peek":          func(d queue, tick int) { d.Peek(tick) },
		"Weight":        func(d queue, tick int) { d.Weight(tick) },
		"Virtual":       func(d queue, tick int) { d.Virtual(tick) },
		"Fluid":         func(d queue, tick int) { d.Fluid(tick) },
		"Plan":          func(d queue, tick int) { d.Plan(pk(a, 1, 3, tick), 0) },
		"Plan for none": func(d queue, tick int) { d.Plan(pk(a, 1, 3, tick), 99) },
		"Plan refused":  func(d queue, tick int) { d.Plan(pk(other, 1, 3, tick), 0) },
		"Tags":          func(d queue, tick int) { d.Tags(pk(a, 1, 3, tick)) },
		"Tags refused":  func(d queue, tick int) { d.Tags(pk(a, 0, 3, tick)) },
		"Admit refused": func(d queue, tick int) { d.Admit(pk(a, 1, 2, tick)) },
		"Admit of none": func(d queue, tick int) { d.Admit(pk(other, 1, 3, tick)) },
	}
}

// 14.2, 13.1: each call that has a tick brings the fluid on, also one that is refused; an earlier tick is nothing.
func TestEachTickBringsTheFluidOn(t *testing.T) {
	for name, call := range calls() {
		t.Run(name, func(t *testing.T) {
			each(t, func(t *testing.T, d queue, begun bool) {
				opened(t, d, 1, 3)
				fed(t, d, pk(a, 10, 1, 0), pk(b, 10, 2, 0))
				call(d, 4)
				reads(t, "Virtual", d.Virtual(0), "1/1")
				reads(t, "Fluid", d.Fluid(math.MinInt), "16/1")
				call(d, 3)
				reads(t, "Virtual", d.Virtual(0), "1/1")
				call(d, 1<<62+1)
				reads(t, "Fluid", d.Fluid(0), "0/1")
			})
		})
	}
}

// 14.2: the fluid is fed at the discipline's time, which may be later than the tick at which the packet came.
func TestFedAtTheTime(t *testing.T) {
	each(t, func(t *testing.T, d queue, begun bool) {
		opened(t, d, 1, 3)
		fed(t, d, pk(a, 10, 1, 0))
		d.Peek(4)
		tagged(t, d, pk(b, 3, 2, 2), "4/1", "5/1")
		fed(t, d, pk(b, 3, 2, 2))
		reads(t, "Fluid", d.Fluid(3), "9/1")
		reads(t, "Virtual", d.Virtual(8), "5/1")
		p, _ := d.Next(8)
		if p != pk(b, 3, 2, 2) {
			t.Errorf("Next: %v", p)
		}
	})
}

// 14.2: an Admit brings the fluid on ahead of its own packet.
func TestAdmitBringsTheFluidOn(t *testing.T) {
	each(t, func(t *testing.T, d queue, begun bool) {
		opened(t, d, 1, 3)
		fed(t, d, pk(a, 10, 1, 0), pk(b, 3, 2, 5))
		reads(t, "Virtual", d.Virtual(0), "5/1")
		reads(t, "Fluid", d.Fluid(0), "8/1")
		fed(t, d, pk(a, 11, 3, 13))
		reads(t, "Fluid", d.Fluid(0), "11/1")
		reads(t, "Virtual", d.Virtual(0), "0/1")
	})
}

// 14.3, 13.3: wrong packets, when the number 5 came last, at the tick 9.
func TestWhatMayNotCome(t *testing.T) {
	for p, want := range map[api.Packet]api.Errno{
		pk(api.Handle{Slot: 0, Gen: 2}, 1, 6, 9): api.ErrHandle,
		pk(c, 0, 0, -1):                          api.ErrHandle,
		pk(a, 0, 6, 9):                           api.ErrArg,
		pk(a, -1, 6, 9):                          api.ErrArg,
		pk(a, 65537, 6, 9):                       api.ErrArg,
		pk(a, math.MinInt, 6, 9):                 api.ErrArg,
		pk(a, 1, 5, 9):                           api.ErrArg,
		pk(b, 1, 4, 9):                           api.ErrArg,
		pk(b, 1, 0, 9):                           api.ErrArg,
		pk(b, 1, math.MinInt, 9):                 api.ErrArg,
		pk(b, 1, 6, 8):                           api.ErrArg,
		pk(b, 1, 6, -1):                          api.ErrArg,
		pk(b, 1, 6, 1<<62+1):                     api.ErrArg,
		pk(b, 1, 6, math.MaxInt):                 api.ErrArg,
	} {
		each(t, func(t *testing.T, d queue, begun bool) {
			opened(t, d, 1, 3)
			fed(t, d, pk(a, 1, 2, 3), pk(a, 1, 5, 9))
			refused(t, d, p, want)
			if d.Len() != 2 {
				t.Fatalf("Len %d", d.Len())
			}
			fed(t, d, pk(b, 65536, 6, 1<<62))
		})
	}
}

// 14.3: a tag below a queued packet's of its flow, which there is behind an empty fluid alone.
func TestTagsThatFall(t *testing.T) {
	each(t, func(t *testing.T, d queue, begun bool) {
		opened(t, d, 1, 1)
		fed(t, d, pk(a, 10, 1, 0))
		refused(t, d, pk(a, 9, 2, 20), api.ErrArg)
		reads(t, "Fluid behind a refused one", d.Fluid(20), "0/1")
		tagged(t, d, pk(b, 9, 2, 20), "0/1", "9/1")
		tagged(t, d, pk(a, 10, 2, 20), "0/1", "10/1")
		fed(t, d, pk(a, 10, 2, 20))
		is(t, "Evict", d.Evict(pk(a, 10, 2, 20)), api.OK)
		tagged(t, d, pk(a, 1, 3, 20), "10/1", "11/1")
		d.Next(20)
		fed(t, d, pk(a, 1, 3, 40))
		if d.Len() != 1 {
			t.Fatalf("Len %d", d.Len())
		}
	})
}

// 14.3: Tags and Plan change nothing but the time.
func TestTagsAndPlanChangeNothing(t *testing.T) {
	each(t, func(t *testing.T, d queue, begun bool) {
		opened(t, d, 1, 3)
		fed(t, d, pk(a, 10, 1, 0), pk(b, 30, 2, 0))
		for range 3 {
			tagged(t, d, pk(a, 7, 3, 4), "10/1", "17/1")
			tagged(t, d, pk(b, 7, 3, 4), "10/1", "37/3")
			l, e := d.Plan(pk(a, 7, 3, 4), 0)
			numbers(t, "Plan", l, e)
			l, e = d.Plan(pk(b, 7, 3, 4), 1)
			refuses(t, "Plan", l, e, api.ErrRefused)
			reads(t, "Fluid", d.Fluid(4), "36/1")
			if d.Len() != 2 || d.Weight(4) != 4 {
				t.Fatalf("Len %d, Weight %d", d.Len(), d.Weight(4))
			}
		}
		fed(t, d, pk(a, 1, 3, 4))
	})
}

// deepen lets the denominators grow: as soon as the fluid has fewer than four flows another one comes, so that V hangs on all that came ahead. What comes leaves at once.
func deepen(x pair, n *noise, until func() bool) {
	x.t.Helper()
	for came := 0; !until(); {
		if l, _ := x.m.fed(); len(l) > 3 {
			tick := x.m.time + 1 + n.below(8)
			x.m.hand(tick)
			equal(x.t, "Virtual", x.d.Virtual(tick), x.m.virtual)
			continue
		}
		came++
		h := api.Handle{Slot: 10, Gen: came}
		x.join(h, 1000+n.below(3097), x.m.time)
		x.admit(pk(h, 20+n.below(40), x.m.seq+1, x.m.time))
		x.leave(h, x.m.time)
		if came > 5000 {
			x.t.Fatal("the denominators do not grow")
		}
	}
}

// 14.3: a tag's denominator may have 2,048 binary digits; ErrDeep is behind 13.3's errors and ahead of a tag that falls.
func TestDeep(t *testing.T) {
	for _, k := range kinds {
		t.Run(k.name, func(t *testing.T) {
			n := noise(143)
			x := pair{t, k.make(), modelOf(k.begun)}
			x.join(a, 4091, 0)
			x.join(b, 1, 0)
			x.join(c, 1, 0)
			x.admit(pk(b, 65536, 1, 0))
			x.look(&n, 65536)
			x.admit(pk(c, 60000, 2, 65536))
			deep := 0
			deepen(x, &n, func() bool {
				if e := x.tags(pk(a, 1, x.m.seq+1, x.m.time)); e == api.ErrDeep {
					deep++
				}
				return deep == 20
			})
			p := pk(a, 1, x.m.seq+1, x.m.time)
			refused(t, x.d, p, api.ErrDeep)
			x.plan(p, 1)
			p.Flow = b
			refused(t, x.d, p, api.ErrDeep)
			p.Seq--
			refused(t, x.d, p, api.ErrArg)
			if x.d.Len() != 2 {
				t.Fatalf("Len %d", x.d.Len())
			}
			end := x.m.time + 1<<20
			is(t, "Tags behind an empty fluid", x.tags(pk(a, 1, x.m.seq+1, end)), api.OK)
			is(t, "Admit behind an empty fluid", x.admit(pk(a, 1, x.m.seq+1, end)), api.OK)
		})
	}
}

// 14.4: of equal tags the lesser number is next, and the greater one is the worst.
func TestEqualTags(t *testing.T) {
	each(t, func(t *testing.T, d queue, begun bool) {
		opened(t, d, 1, 2, 1)
		fed(t, d, pk(c, 6, 3, 0), pk(b, 12, 5, 0), pk(a, 6, 8, 0))
		for n, want := range []int{8, 5, 3, 0} {
			p, ok := d.Worst(n)
			tells(t, "Worst", p, ok, want)
		}
		for _, want := range []int{3, 5, 8, 0} {
			p, ok := d.Next(0)
			tells(t, "Next", p, ok, want)
		}
	})
}

// 14.4: a WF2 tells what has a start of V, and nothing above it as long as there is such.
func TestStartsAtV(t *testing.T) {
	d := wfq.New2()
	opened(t, d, 1, 1)
	fed(t, d, pk(a, 2, 1, 0), pk(a, 2, 2, 0), pk(b, 9, 3, 0), pk(b, 1, 4, 0))
	p, ok := d.Next(0)
	tells(t, "Next at the start 0", p, ok, 1)
	p, ok = d.Peek(3)
	tells(t, "Peek at V 3/2", p, ok, 3)
	p, ok = d.Peek(4)
	tells(t, "Peek at V 2, the start", p, ok, 2)
	p, ok = d.Next(4)
	tells(t, "Next at V 2", p, ok, 2)
	p, ok = d.Next(4)
	tells(t, "Next of what has begun", p, ok, 3)
	p, ok = d.Next(4)
	tells(t, "Next of what has not", p, ok, 4)
}

// 14.4: where nothing has begun, the first ones are held against each other by their tags, not by their starts.
func TestNothingHasBegun(t *testing.T) {
	d := wfq.New2()
	opened(t, d, 1, 1)
	fed(t, d, pk(a, 5, 1, 0), pk(b, 9, 2, 0), pk(a, 50, 3, 0), pk(b, 1, 4, 0))
	d.Next(0)
	d.Next(0)
	p, ok := d.Peek(0)
	tells(t, "Peek", p, ok, 4)
	p, ok = d.Next(0)
	tells(t, "Next", p, ok, 4)
	p, ok = d.Next(0)
	tells(t, "Next", p, ok, 3)
}

// 14.4: only first ones are looked at: behind an empty fluid one that has begun may stand behind one that has not.
func TestOnlyFirstOnes(t *testing.T) {
	d := wfq.New2()
	opened(t, d, 1, 1)
	fed(t, d, pk(a, 9, 1, 0), pk(a, 1, 2, 0), pk(b, 1, 3, 0), pk(b, 20, 4, 0))
	d.Next(0)
	d.Next(0)
	tagged(t, d, pk(a, 12, 5, 40), "0/1", "12/1")
	fed(t, d, pk(a, 12, 5, 40))
	p, ok := d.Next(40)
	tells(t, "Next, nothing has begun", p, ok, 2)
	p, ok = d.Next(40)
	tells(t, "Next of what has begun", p, ok, 5)
	p, ok = d.Next(40)
	tells(t, "Next of the last", p, ok, 4)
}

// 14.4: what had begun waits again, when V is 0 behind an empty fluid.
func TestBegunNoMore(t *testing.T) {
	d := wfq.New2()
	opened(t, d, 1, 1)
	fed(t, d, pk(a, 4, 1, 0), pk(b, 8, 2, 0), pk(a, 1, 3, 0))
	p, ok := d.Next(0)
	tells(t, "Next", p, ok, 1)
	p, ok = d.Peek(9)
	tells(t, "Peek: the start 4 is below V", p, ok, 3)
	p, ok = d.Peek(13)
	tells(t, "Peek at V 0", p, ok, 2)
	p, ok = d.Next(14)
	tells(t, "Next at V 0", p, ok, 2)
	p, ok = d.Next(15)
	tells(t, "Next of what has not begun", p, ok, 3)
}

// 14.4: what is evicted, and what left, is no first one any more.
func TestGoneFirstOnes(t *testing.T) {
	d := wfq.New2()
	opened(t, d, 1, 1, 1)
	fed(t, d, pk(a, 3, 1, 0), pk(b, 4, 2, 0), pk(b, 1, 3, 0), pk(c, 5, 4, 0))
	p, ok := d.Peek(0)
	tells(t, "Peek", p, ok, 1)
	is(t, "Evict of a first one that has begun", d.Evict(p), api.OK)
	p, ok = d.Peek(0)
	tells(t, "Peek behind Evict", p, ok, 2)
	is(t, "Evict of one behind", d.Evict(pk(b, 1, 3, 0)), api.OK)
	d.Leave(b, 0)
	p, ok = d.Peek(0)
	tells(t, "Peek behind Leave", p, ok, 4)
	fed(t, d, pk(a, 1, 5, 0))
	is(t, "Evict of a first one that waits", d.Evict(pk(a, 1, 5, 0)), api.OK)
	p, ok = d.Next(0)
	tells(t, "Next", p, ok, 4)
	p, ok = d.Next(0)
	tells(t, "Next of none", p, ok, 0)
}

// 14.6: V is told in lowest terms, and what is left is told of all flows together, also where it is no whole number of one of them.
func TestVirtualAndFluid(t *testing.T) {
	each(t, func(t *testing.T, d queue, begun bool) {
		opened(t, d, 2, 4)
		fed(t, d, pk(a, 10, 1, 0), pk(b, 10, 2, 0))
		for tick, want := range []string{"0/1", "1/6", "1/3", "1/2", "2/3"} {
			reads(t, "Virtual", d.Virtual(tick), want)
			reads(t, "Fluid", d.Fluid(tick), big.NewRat(int64(20-tick), 1).String())
		}
		reads(t, "Virtual when B is served", d.Virtual(15), "5/2")
		reads(t, "Virtual of A alone", d.Virtual(18), "4/1")
		reads(t, "Virtual ahead of the end", d.Virtual(19), "9/2")
		reads(t, "Fluid", d.Fluid(19), "1/1")
		reads(t, "Virtual at the end", d.Virtual(20), "0/1")
	})
}

// 14.7: chapter 13's calls.
func TestAsAnyDiscipline(t *testing.T) {
	each(t, func(t *testing.T, d queue, begun bool) {
		opened(t, d, 1, 1)
		is(t, "Join again", d.Join(a, api.Params{}, 0), api.ErrHandle)
		is(t, "Join at A's slot", d.Join(api.Handle{Slot: 0, Gen: 2}, api.Params{}, 0), api.ErrHandle)
		fed(t, d, pk(a, 4, 1, 0), pk(b, 2, 2, 0), pk(a, 4, 3, 0), pk(b, 3, 4, 0))
		for _, p := range []api.Packet{pk(a, 4, 1, 0), pk(b, 2, 2, 0), pk(b, 4, 3, 0), pk(c, 4, 3, 0), {}} {
			is(t, "Evict", d.Evict(p), api.ErrItem)
		}
		for _, x := range []struct {
			need int
			want []int
		}{{-1, nil}, {0, nil}, {1, []int{3}}, {4, []int{3}}} {
			l, e := d.Plan(pk(b, 1, 5, 0), x.need)
			numbers(t, "Plan", l, e, x.want...)
		}
		for _, need := range []int{5, math.MaxInt} {
			l, e := d.Plan(pk(b, 1, 5, 0), need)
			refuses(t, "Plan", l, e, api.ErrRefused)
		}
		is(t, "Evict of the last", d.Evict(pk(a, 4, 3, 0)), api.OK)
		l, e := d.Leave(b, 0)
		numbers(t, "Leave", l, e, 2, 4)
		l, e = d.Leave(b, 0)
		refuses(t, "Leave again", l, e, api.ErrHandle)
		if d.Len() != 1 {
			t.Fatalf("Len %d", d.Len())
		}
		for _, n := range []int{math.MinInt, -1, 1, math.MaxInt} {
			p, ok := d.Worst(n)
			tells(t, "Worst of none", p, ok, 0)
		}
	})
}
