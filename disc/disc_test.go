package disc_test

import (
	"math"
	"slices"
	"testing"

	"millrace/api"
	"millrace/disc"
)

var a, b, c = api.Handle{Slot: 0, Gen: 1}, api.Handle{Slot: 1, Gen: 1}, api.Handle{Slot: 2, Gen: 1}

func pk(h api.Handle, size, seq, came int) api.Packet {
	return api.Packet{Flow: h, Size: size, Seq: seq, Came: came}
}

// numbers holds a list of packets against their numbers.
func numbers(t *testing.T, what string, l []api.Packet, e api.Errno, want ...int) {
	t.Helper()
	is(t, what, e, api.OK)
	var got []int
	for _, p := range l {
		got = append(got, p.Seq)
	}
	if !slices.Equal(got, want) {
		t.Fatalf("%s: %v, want %v", what, got, want)
	}
}

// refuses holds an error against the one that it should be, and looks that nothing stands beside it.
func refuses(t *testing.T, what string, l []api.Packet, e, want api.Errno) {
	t.Helper()
	if e != want || len(l) != 0 {
		t.Fatalf("%s: %v %d, want %d", what, l, e, want)
	}
}

// tells holds a packet against its number, 0 being none.
func tells(t *testing.T, what string, p api.Packet, ok bool, seq int) {
	t.Helper()
	if p.Seq != seq || ok != (seq > 0) || !ok && p != (api.Packet{}) {
		t.Fatalf("%s: %v %v, want %d", what, p, ok, seq)
	}
}

// lineOf is a line with A and B joined.
func lineOf(t *testing.T) disc.Discipline {
	t.Helper()
	d := disc.NewLine()
	is(t, "Join", d.Join(a, api.Params{Weight: 2}, 0), api.OK)
	is(t, "Join", d.Join(b, api.Params{Weight: 3}, 0), api.OK)
	return d
}

// keyedOf is a queue by ticks with A, B and C joined.
func keyedOf(t *testing.T) *disc.Keyed[disc.Tick] {
	t.Helper()
	q := disc.NewKeyed[disc.Tick]()
	for i, h := range []api.Handle{a, b, c} {
		is(t, "Join", q.Join(h, api.Params{Weight: 10 + i, Span: i}, 0), api.OK)
	}
	return q
}

// The chapter's first table.
func TestExampleLine(t *testing.T) {
	var d disc.Discipline = disc.NewLine()
	is(t, "Join A", d.Join(a, api.Params{}, 0), api.OK)
	is(t, "Join A again", d.Join(a, api.Params{}, 0), api.ErrHandle)
	is(t, "Join at A's slot", d.Join(api.Handle{Slot: 0, Gen: 2}, api.Params{}, 0), api.ErrHandle)
	is(t, "Join B", d.Join(b, api.Params{}, 0), api.OK)
	is(t, "Admit 1", d.Admit(pk(a, 10, 1, 0)), api.OK)
	is(t, "Admit 2", d.Admit(pk(b, 20, 2, 0)), api.OK)
	is(t, "Admit 2 again", d.Admit(pk(a, 5, 2, 0)), api.ErrArg)
	is(t, "Admit 4", d.Admit(pk(a, 5, 4, 1)), api.OK)
	l, e := d.Plan(pk(b, 9, 5, 1), 1)
	refuses(t, "Plan for 1", l, e, api.ErrRefused)
	l, e = d.Plan(pk(b, 9, 5, 1), 0)
	numbers(t, "Plan for 0", l, e)
	is(t, "Evict 1", d.Evict(pk(a, 10, 1, 0)), api.ErrItem)
	is(t, "Evict 4", d.Evict(pk(a, 5, 4, 1)), api.OK)
	p, ok := d.Peek(3)
	tells(t, "Peek", p, ok, 1)
	for n, seq := range []int{2, 1, 0} {
		p, ok = d.Worst(n)
		tells(t, "Worst", p, ok, seq)
	}
	p, ok = d.Next(3)
	tells(t, "Next", p, ok, 1)
	if d.Len() != 1 {
		t.Fatalf("Len %d", d.Len())
	}
	l, e = d.Leave(b, 3)
	numbers(t, "Leave", l, e, 2)
	is(t, "Admit behind Leave", d.Admit(pk(b, 1, 9, 3)), api.ErrHandle)
}

// The chapter's second example.
func TestExampleKeyed(t *testing.T) {
	q := keyedOf(t)
	is(t, "Put 1", q.Put(pk(a, 10, 1, 0), 7), api.OK)
	is(t, "Put 2", q.Put(pk(b, 20, 2, 0), 3), api.OK)
	is(t, "Put 3", q.Put(pk(a, 1, 3, 0), 5), api.ErrArg)
	l, e := q.Spare(pk(b, 4, 3, 0), 5, 10)
	numbers(t, "Spare for 10", l, e, 1)
	l, e = q.Spare(pk(b, 4, 3, 0), 5, 11)
	refuses(t, "Spare for 11", l, e, api.ErrRefused)
	l, e = q.Spare(pk(b, 4, 3, 0), 7, 10)
	refuses(t, "Spare under 7", l, e, api.ErrRefused)
	var keys []disc.Tick
	var all []api.Packet
	for k, p := range q.All() {
		keys, all = append(keys, k), append(all, p)
	}
	numbers(t, "All", all, api.OK, 2, 1)
	if !slices.Equal(keys, []disc.Tick{3, 7}) {
		t.Fatalf("All: the keys %v", keys)
	}
	p, ok := q.Pick(1)
	tells(t, "Pick", p, ok, 1)
	p, ok = q.Next(0)
	tells(t, "Next", p, ok, 2)
}

// 13.8: keys that compare themselves.
func TestTick(t *testing.T) {
	l := []disc.Tick{math.MinInt, math.MinInt + 1, -1, 0, 1, math.MaxInt - 1, math.MaxInt}
	for i, x := range l {
		for j, y := range l {
			want := 0
			if i < j {
				want = -1
			} else if i > j {
				want = 1
			}
			if got := x.Cmp(y); got != want {
				t.Errorf("%d to %d: %d, want %d", x, y, got, want)
			}
		}
	}
}

// 13.2
func TestJoinAndLeave(t *testing.T) {
	d := lineOf(t)
	l, e := d.Leave(api.Handle{Slot: 0, Gen: 2}, 0)
	refuses(t, "Leave of another at A's slot", l, e, api.ErrHandle)
	l, e = d.Leave(c, 0)
	refuses(t, "Leave of one that was never open", l, e, api.ErrHandle)
	is(t, "Admit", d.Admit(pk(a, 1, 1, 0)), api.OK)
	is(t, "Admit", d.Admit(pk(b, 1, 2, 0)), api.OK)
	is(t, "Admit", d.Admit(pk(a, 1, 3, 0)), api.OK)
	l, e = d.Leave(a, 0)
	numbers(t, "Leave", l, e, 1, 3)
	l, e = d.Leave(a, 0)
	refuses(t, "Leave again", l, e, api.ErrHandle)
	if d.Len() != 1 || d.Weight(0) != 3 {
		t.Fatalf("Len %d, Weight %d", d.Len(), d.Weight(0))
	}
	is(t, "Join of A's slot", d.Join(api.Handle{Slot: 0, Gen: 2}, api.Params{Weight: 50}, 0), api.OK)
	is(t, "Admit of the old A", d.Admit(pk(a, 1, 4, 0)), api.ErrHandle)
	l, e = d.Leave(api.Handle{Slot: 0, Gen: 2}, 0)
	numbers(t, "Leave of one that has nothing", l, e)
	is(t, "Join of A anew", d.Join(a, api.Params{}, 0), api.OK)
	l, e = d.Leave(a, 0)
	numbers(t, "Leave: what it had before is gone", l, e)
}

// 13.2: parameters are not looked at, and neither is a handle's form.
func TestJoinsWhatever(t *testing.T) {
	q := disc.NewKeyed[disc.Tick]()
	odd := api.Params{Weight: -1, Quantum: math.MinInt, Class: 99, Span: -5, Burst: -1, Rate: math.Inf(-1), Per: 0, Node: -7}
	for _, h := range []api.Handle{{}, {Slot: -1, Gen: -1}, {Slot: math.MaxInt, Gen: math.MinInt}, {Slot: math.MinInt}, {Slot: 1 << 40}} {
		is(t, "Join", q.Join(h, odd, math.MaxInt), api.OK)
		if p, e := q.Params(h); p != odd || e != api.OK {
			t.Errorf("Params: %+v %d", p, e)
		}
	}
	if q.Weight(0) != -5 {
		t.Errorf("Weight %d", q.Weight(0))
	}
}

// 13.8
func TestParams(t *testing.T) {
	q := keyedOf(t)
	for i, h := range []api.Handle{a, b, c} {
		if p, e := q.Params(h); p != (api.Params{Weight: 10 + i, Span: i}) || e != api.OK {
			t.Errorf("Params of %v: %+v %d", h, p, e)
		}
	}
	q.Join(a, api.Params{Weight: 77}, 0)
	if p, _ := q.Params(a); p.Weight != 10 {
		t.Errorf("a refused Join leaves %+v", p)
	}
	q.Leave(b, 0)
	for _, h := range []api.Handle{b, {Slot: 0, Gen: 2}, {Slot: 7, Gen: 1}} {
		if p, e := q.Params(h); p != (api.Params{}) || e != api.ErrHandle {
			t.Errorf("Params of %v: %+v %d", h, p, e)
		}
	}
}

// wrong are packets that may not come to A and B when the number 5 came last, at the tick 9, with the error of each.
func wrong() map[api.Packet]api.Errno {
	other := api.Handle{Slot: 0, Gen: 2}
	return map[api.Packet]api.Errno{
		pk(other, 1, 6, 9):                api.ErrHandle,
		pk(api.Handle{}, 1, 6, 9):         api.ErrHandle,
		pk(api.Handle{Slot: 9}, 0, 0, -1): api.ErrHandle,
		pk(a, 0, 6, 9):                    api.ErrArg,
		pk(a, -1, 6, 9):                   api.ErrArg,
		pk(a, 65537, 6, 9):                api.ErrArg,
		pk(a, math.MaxInt, 6, 9):          api.ErrArg,
		pk(a, math.MinInt, 6, 9):          api.ErrArg,
		pk(a, 1, 5, 9):                    api.ErrArg,
		pk(a, 1, 4, 9):                    api.ErrArg,
		pk(b, 1, 5, 9):                    api.ErrArg,
		pk(a, 1, 0, 9):                    api.ErrArg,
		pk(a, 1, -1, 9):                   api.ErrArg,
		pk(a, 1, math.MinInt, 9):          api.ErrArg,
		pk(a, 1, 6, 8):                    api.ErrArg,
		pk(b, 1, 6, 0):                    api.ErrArg,
		pk(a, 1, 6, -1):                   api.ErrArg,
		pk(a, 1, 6, math.MinInt):          api.ErrArg,
		pk(a, 1, 6, 1<<62+1):              api.ErrArg,
		pk(a, 1, 6, math.MaxInt):          api.ErrArg,
		pk(a, 1, 6, 9):                    api.OK,
		pk(b, 65536, 6, 9):                api.OK,
		pk(a, 1, math.MaxInt, 1<<62):      api.OK,
	}
}

// 13.3, 13.4, 13.8, 13.9: the packets that came last count also when they are queued no more.
func TestWhatMayNotCome(t *testing.T) {
	for p, want := range wrong() {
		l := disc.NewLine()
		l.Join(a, api.Params{}, 0)
		l.Join(b, api.Params{}, 0)
		is(t, "Admit", l.Admit(pk(b, 1, 2, 3)), api.OK)
		is(t, "Admit", l.Admit(pk(b, 1, 5, 9)), api.OK)
		l.Next(20)
		is(t, "Evict", l.Evict(pk(b, 1, 5, 9)), api.OK)
		is(t, "Check", l.Check(p), want)
		for _, need := range []int{math.MinInt, 0} {
			told, e := l.Plan(p, need)
			refuses(t, "Plan", told, e, want)
			told, e = l.Spare(p, 0, need)
			refuses(t, "Spare", told, e, want)
		}
		refused := want
		if want == api.OK {
			refused = api.ErrRefused
		}
		for _, need := range []int{1, math.MaxInt} {
			told, e := l.Plan(p, need)
			refuses(t, "Plan", told, e, refused)
		}
		is(t, "Admit", l.Admit(p), want)
		if got := l.Len(); got != map[api.Errno]int{api.OK: 1}[want] {
			t.Errorf("%v: Len %d", p, got)
		}
	}
}

// 13.3: numbers are from 1 on, ticks from 0 on, also of the first packet; a refused one leaves no number and no tick.
func TestTheFirstThatComes(t *testing.T) {
	d := lineOf(t)
	for _, p := range []api.Packet{pk(a, 1, 0, 0), pk(a, 1, -1, 0), pk(a, 1, 1, -1), pk(a, 0, 99, 99), pk(c, 1, 99, 99)} {
		if e := d.Admit(p); e == api.OK {
			t.Errorf("%v is taken", p)
		}
	}
	is(t, "Admit", d.Admit(pk(a, 1, 1, 0)), api.OK)
}

// 13.3: a packet's tick is held against those of packets, not against the time.
func TestTicksOfCallsAreNotTicksOfPackets(t *testing.T) {
	d := lineOf(t)
	d.Next(50)
	d.Peek(60)
	d.Weight(70)
	d.Leave(a, 80)
	d.Join(a, api.Params{}, 90)
	is(t, "Admit", d.Admit(pk(a, 1, 1, 0)), api.OK)
	d.Admit(pk(a, 0, 2, 40))
	d.Plan(pk(a, 1, 2, 40), 1)
	is(t, "Admit", d.Admit(pk(a, 1, 2, 0)), api.OK)
}

// 13.4
func TestPlan(t *testing.T) {
	q := keyedOf(t)
	for i, k := range []disc.Tick{1, 5, 5, 9} {
		is(t, "Put", q.Put(pk([]api.Handle{a, b, c, b}[i], 10, i+1, 0), k), api.OK)
	}
	for _, x := range []struct {
		need int
		want []int
	}{{math.MinInt, nil}, {-1, nil}, {0, nil}, {1, []int{4}}, {10, []int{4}}, {11, []int{4, 3}}, {20, []int{4, 3}}, {21, []int{4, 3, 2}}, {30, []int{4, 3, 2}}} {
		l, e := q.Spare(pk(a, 1, 5, 0), 4, x.need)
		numbers(t, "Spare", l, e, x.want...)
	}
	for _, need := range []int{31, 40, 41, math.MaxInt} {
		l, e := q.Spare(pk(a, 1, 5, 0), 4, need)
		refuses(t, "Spare", l, e, api.ErrRefused)
	}
	l, e := q.Spare(pk(b, 1, 5, 0), 8, 1)
	refuses(t, "Spare under a key that falls", l, e, api.ErrArg)
	l, e = q.Spare(pk(b, 1, 5, 0), 8, 0)
	refuses(t, "Spare of nothing under a key that falls", l, e, api.ErrArg)
	if q.Len() != 4 {
		t.Errorf("Len %d", q.Len())
	}
}

// 13.4: if all that is queued goes and is too little, the new one is the worst of what is left.
func TestPlanForMoreThanThereIs(t *testing.T) {
	q := keyedOf(t)
	l, e := q.Spare(pk(a, 65536, 1, 0), 0, 1)
	refuses(t, "Spare of an empty one", l, e, api.ErrRefused)
	is(t, "Put", q.Put(pk(b, 7, 1, 0), 5), api.OK)
	l, e = q.Spare(pk(a, 65536, 2, 0), 0, 8)
	refuses(t, "Spare for more than there is", l, e, api.ErrRefused)
	l, e = q.Spare(pk(a, 65536, 2, 0), 0, 7)
	numbers(t, "Spare for all", l, e, 1)
}

// 13.5
func TestEvict(t *testing.T) {
	d := lineOf(t)
	for i, h := range []api.Handle{a, b, a, a} {
		is(t, "Admit", d.Admit(pk(h, 10, i+1, 0)), api.OK)
	}
	for _, p := range []api.Packet{pk(a, 10, 1, 0), pk(a, 10, 3, 0), pk(a, 10, 2, 0), pk(b, 10, 4, 0), pk(b, 10, 1, 0), pk(a, 10, 0, 0), pk(a, 10, 5, 0), pk(c, 10, 4, 0), pk(api.Handle{Slot: 0, Gen: 2}, 10, 4, 0), {}} {
		is(t, "Evict", d.Evict(p), api.ErrItem)
	}
	if d.Len() != 4 {
		t.Fatalf("Len %d", d.Len())
	}
	is(t, "Evict 4 by its flow and number alone", d.Evict(api.Packet{Flow: a, ID: 8, Size: -3, Seq: 4, Came: 99}), api.OK)
	is(t, "Evict 4 again", d.Evict(pk(a, 10, 4, 0)), api.ErrItem)
	is(t, "Evict 3", d.Evict(pk(a, 10, 3, 0)), api.OK)
	is(t, "Evict 1", d.Evict(pk(a, 10, 1, 0)), api.OK)
	is(t, "Evict of none", d.Evict(pk(a, 10, 1, 0)), api.ErrItem)
	p, ok := d.Next(0)
	tells(t, "Next", p, ok, 2)
	is(t, "Evict of one that was told", d.Evict(p), api.ErrItem)
}

// 13.6
func TestNextAndPeek(t *testing.T) {
	q := keyedOf(t)
	p, ok := q.Peek(0)
	tells(t, "Peek of none", p, ok, 0)
	p, ok = q.Next(0)
	tells(t, "Next of none", p, ok, 0)
	whole := api.Packet{Flow: c, ID: -9, Size: 65536, Seq: 1, Came: 4}
	is(t, "Put", q.Put(whole, -3), api.OK)
	is(t, "Put", q.Put(pk(a, 1, 2, 4), -3), api.OK)
	is(t, "Put", q.Put(pk(b, 1, 3, 4), math.MinInt), api.OK)
	for _, want := range []int{3, 1, 2} {
		for range 3 {
			p, ok = q.Peek(9)
			tells(t, "Peek", p, ok, want)
		}
		p, ok = q.Next(9)
		tells(t, "Next", p, ok, want)
		if want == 1 && p != whole {
			t.Errorf("Next: %v, want %v", p, whole)
		}
	}
	p, ok = q.Next(9)
	tells(t, "Next of none", p, ok, 0)
}

// 13.7
func TestWorst(t *testing.T) {
	q := keyedOf(t)
	for i, k := range []disc.Tick{4, 2, 4, 1, 4} {
		is(t, "Put", q.Put(pk([]api.Handle{a, b, a, c, b}[i], 1, i+1, 0), k), api.OK)
	}
	for n, want := range []int{5, 3, 1, 2, 4, 0, 0} {
		p, ok := q.Worst(n)
		tells(t, "Worst", p, ok, want)
	}
	for _, n := range []int{-1, -5, math.MinInt, 5, math.MaxInt} {
		p, ok := q.Worst(n)
		tells(t, "Worst of none", p, ok, 0)
	}
}

// 13.9: a key may be that of the flow's last one, and must not be below it; what is queued no more counts no more.
func TestKeysOfAFlowDoNotFall(t *testing.T) {
	q := keyedOf(t)
	is(t, "Put", q.Put(pk(a, 1, 1, 0), 4), api.OK)
	is(t, "Put under the same", q.Put(pk(a, 1, 2, 0), 4), api.OK)
	is(t, "Put under a greater one", q.Put(pk(a, 1, 3, 0), 6), api.OK)
	is(t, "Put below the last one", q.Put(pk(a, 1, 4, 0), 5), api.ErrArg)
	is(t, "Put of another flow", q.Put(pk(b, 1, 4, 0), 5), api.OK)
	is(t, "Check", q.Check(pk(a, 1, 5, 0)), api.OK)
	is(t, "Evict", q.Evict(pk(a, 1, 3, 0)), api.OK)
	is(t, "Put below one that was evicted", q.Put(pk(a, 1, 5, 0), 5), api.OK)
	q.Leave(a, 0)
	is(t, "Join", q.Join(a, api.Params{}, 0), api.OK)
	is(t, "Put below those that left", q.Put(pk(a, 1, 6, 0), -7), api.OK)
	q.Next(0)
	is(t, "Put below one that was told", q.Put(pk(a, 1, 7, 0), -8), api.OK)
	q.Pick(7)
	is(t, "Put below one that was picked", q.Put(pk(a, 1, 8, 0), -9), api.OK)
}

// 13.10
func TestPick(t *testing.T) {
	q := keyedOf(t)
	for i, h := range []api.Handle{a, b, a, b, c} {
		is(t, "Put", q.Put(pk(h, 1, 2*i+1, 0), disc.Tick(i)), api.OK)
	}
	for _, seq := range []int{0, -1, 2, 5, 7, 11, math.MinInt, math.MaxInt} {
		p, ok := q.Pick(seq)
		tells(t, "Pick of what is no flow's first one", p, ok, 0)
	}
	for _, seq := range []int{9, 3, 7, 1, 5} {
		p, ok := q.Pick(seq)
		tells(t, "Pick", p, ok, seq)
		p, ok = q.Pick(seq)
		tells(t, "Pick again", p, ok, 0)
	}
	if q.Len() != 0 {
		t.Errorf("Len %d", q.Len())
	}
}

// 13.10: whatever is done in a range's body, it gives what was queued when it began; the next range what is queued then.
func TestAllIsOfItsBeginning(t *testing.T) {
	q := keyedOf(t)
	for i, h := range []api.Handle{a, b, a, b, c} {
		is(t, "Put", q.Put(pk(h, 1, i+1, 0), disc.Tick(10-i%2*5)), api.OK)
	}
	all := q.All()
	var told, within []api.Packet
	for _, p := range all {
		told = append(told, p)
		switch len(told) {
		case 1:
			q.Next(0)
			is(t, "Evict", q.Evict(pk(c, 1, 5, 0)), api.OK)
		case 2:
			q.Leave(a, 0)
			is(t, "Put", q.Put(pk(c, 1, 6, 0), 0), api.OK)
			for _, p := range all {
				within = append(within, p)
			}
		case 3:
			q.Pick(4)
			q.Pick(6)
			q.Join(a, api.Params{}, 0)
		}
	}
	numbers(t, "All", told, api.OK, 2, 4, 1, 3, 5)
	numbers(t, "All within it", within, api.OK, 6, 4)
	for _, p := range all {
		t.Errorf("All of none: %v", p)
	}
}

// 13.10: a range may be left.
func TestAllIsLeft(t *testing.T) {
	q := keyedOf(t)
	for range q.All() {
		t.Error("All of none")
	}
	for i := range 20 {
		is(t, "Put", q.Put(pk(a, 1, i+1, 0), disc.Tick(i/3)), api.OK)
	}
	all := q.All()
	for k := range 21 {
		seen := 0
		for range all {
			if seen++; seen > k {
				break
			}
		}
		if seen != min(k+1, 20) {
			t.Errorf("left behind %d: %d", k, seen)
		}
	}
}

// 13.12: what came first is next, also through the base's calls.
func TestLine(t *testing.T) {
	l := disc.NewLine()
	l.Join(a, api.Params{}, 0)
	l.Join(b, api.Params{}, 0)
	for i := range 9 {
		is(t, "Admit", l.Admit(pk([]api.Handle{a, b}[i%2], 1, i+1, i)), api.OK)
	}
	i := 0
	for k, p := range l.All() {
		if i++; k != 0 || p.Seq != i {
			t.Errorf("All: %v under %d", p, k)
		}
	}
	p, ok := l.Pick(2)
	tells(t, "Pick", p, ok, 2)
	for _, want := range []int{1, 3, 4, 5, 6, 7, 8, 9, 0} {
		p, ok := l.Next(0)
		tells(t, "Next", p, ok, want)
	}
}
