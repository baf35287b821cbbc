package drr_test

import (
	"math"
	"slices"
	"testing"

	"millrace/api"
	"millrace/drr"
)

var a, b, c = api.Handle{Slot: 0, Gen: 1}, api.Handle{Slot: 1, Gen: 1}, api.Handle{Slot: 2, Gen: 1}

// odd are ints that no call must stumble over.
var odd = []int{math.MinInt, math.MinInt + 1, -1, 0, 1, 2, 65536, 65537, 1 << 30, 1 << 62, 1<<62 + 1, math.MaxInt - 1, math.MaxInt}

func pk(h api.Handle, size, seq, came int) api.Packet {
	return api.Packet{Flow: h, Size: size, Seq: seq, Came: came}
}

// opened is one with a flow for each of these quanta, from A on.
func opened(t *testing.T, quanta ...int) *drr.DRR {
	t.Helper()
	d := drr.New()
	for slot, quantum := range quanta {
		is(t, "Join", d.Join(api.Handle{Slot: slot, Gen: 1}, api.Params{Weight: 10 + slot, Quantum: quantum}, 0), api.OK)
	}
	return d
}

// fed admits these packets.
func fed(t *testing.T, d *drr.DRR, l ...api.Packet) {
	t.Helper()
	for _, p := range l {
		is(t, "Admit", d.Admit(p), api.OK)
	}
}

// numbers holds a list of packets against their numbers.
func numbers(t *testing.T, what string, l []api.Packet, e api.Errno, want ...int) {
	t.Helper()
	is(t, what, e, api.OK)
	var got []int
	for _, p := range l {
		got = append(got, p.Seq)
	}
	if !slices.Equal(got, want) {
		t.Fatalf("%s: %v, want %v", what, got, want)
	}
}

// refuses holds an error against the one that it should be, and looks that nothing stands beside it.
func refuses(t *testing.T, what string, l []api.Packet, e, want api.Errno) {
	t.Helper()
	if e != want || len(l) != 0 {
		t.Fatalf("%s: %v %d, want %d", what, l, e, want)
	}
}

// tells holds a packet against its number, 0 being none.
func tells(t *testing.T, what string, p api.Packet, ok bool, seq int) {
	t.Helper()
	if p.Seq != seq || ok != (seq > 0) || !ok && p != (api.Packet{}) {
		t.Fatalf("%s: %v %v, want %d", what, p, ok, seq)
	}
}

// next holds what Next tells against its number, and ahead of it what Peek tells.
func next(t *testing.T, d *drr.DRR, seq int) {
	t.Helper()
	p, ok := d.Peek(0)
	tells(t, "Peek", p, ok, seq)
	p, ok = d.Next(0)
	tells(t, "Next", p, ok, seq)
}

func rings(t *testing.T, d *drr.DRR, want ...api.Handle) {
	t.Helper()
	if got := d.Ring(); !slices.Equal(got, want) {
		t.Fatalf("Ring: %v, want %v", got, want)
	}
}

// turns holds the holder of the turn against who it should be, and the deficits of A, B, .. against these.
func turns(t *testing.T, d *drr.DRR, holder api.Handle, has bool, deficits ...int) {
	t.Helper()
	h, ok := d.Turn()
	if ok != has || h != holder {
		t.Fatalf("Turn: %v %v, want %v %v", h, ok, holder, has)
	}
	for slot, want := range deficits {
		n, e := d.Deficit(api.Handle{Slot: slot, Gen: 1})
		if n != want || e != api.OK {
			t.Fatalf("Deficit of slot %d: %d %d, want %d", slot, n, e, want)
		}
	}
}

var nobody api.Handle

// exampleOf is the chapter's example when all four packets are queued.
func exampleOf(t *testing.T) *drr.DRR {
	t.Helper()
	d := opened(t, 10, 5, 100)
	fed(t, d, pk(a, 12, 1, 0), pk(a, 3, 2, 0), pk(b, 5, 3, 0), pk(c, 50, 4, 0))
	return d
}

// The chapter's table.
func TestExampleTurns(t *testing.T) {
	d := exampleOf(t)
	rings(t, d, a, b, c)
	next(t, d, 3)
	turns(t, d, nobody, false, 10, 0, 0)
	rings(t, d, c, a)
	p, ok := d.Peek(0)
	tells(t, "Peek", p, ok, 4)
	rings(t, d, c, a)
	turns(t, d, nobody, false, 10, 0, 0)
	next(t, d, 4)
	rings(t, d, a)
	next(t, d, 1)
	turns(t, d, a, true, 8)
	fed(t, d, pk(b, 7, 5, 0))
	next(t, d, 2)
	turns(t, d, nobody, false, 0, 0, 0)
	next(t, d, 5)
	turns(t, d, nobody, false, 0, 0, 0)
	next(t, d, 0)
}

// The chapter's example of the worst.
func TestExampleWorst(t *testing.T) {
	d := exampleOf(t)
	p := pk(c, 60, 5, 0)
	for need, want := range map[int][]int{math.MinInt: nil, -1: nil, 0: nil, 1: {2}, 3: {2}, 4: {2, 1}, 15: {2, 1}} {
		l, e := d.Plan(p, need)
		numbers(t, "Plan", l, e, want...)
	}
	for _, need := range []int{16, 65, math.MaxInt} {
		l, e := d.Plan(p, need)
		refuses(t, "Plan", l, e, api.ErrRefused)
	}
	if d.Len() != 4 {
		t.Fatalf("Len %d", d.Len())
	}
	rings(t, d, a, b, c)
}

// 15.1
func TestNew(t *testing.T) {
	d := drr.New()
	rings(t, d)
	turns(t, d, nobody, false)
	next(t, d, 0)
	if d.Len() != 0 || d.Weight(0) != 0 {
		t.Fatalf("Len %d, Weight %d", d.Len(), d.Weight(0))
	}
	is(t, "Admit", d.Admit(pk(api.Handle{}, 1, 1, 0)), api.ErrHandle)
	l, e := d.Leave(api.Handle{}, 0)
	refuses(t, "Leave", l, e, api.ErrHandle)
}

// 15.1: two have nothing in common.
func TestTwoApart(t *testing.T) {
	x, y := exampleOf(t), drr.New()
	is(t, "Admit to the other", y.Admit(pk(a, 1, 1, 0)), api.ErrHandle)
	is(t, "Join of the other", y.Join(a, api.Params{Quantum: 1}, 0), api.OK)
	fed(t, y, pk(a, 2, 1, 0))
	next(t, y, 1)
	rings(t, x, a, b, c)
	turns(t, x, nobody, false, 0, 0, 0)
	rings(t, y)
	next(t, x, 3)
	if x.Len() != 3 || y.Len() != 0 || x.Weight(0) != 33 || y.Weight(0) != 0 {
		t.Errorf("Len %d %d, Weight %d %d", x.Len(), y.Len(), x.Weight(0), y.Weight(0))
	}
}

// 15.2: who gets something stands at the end, and only who has nothing comes in anew.
func TestComesIntoTheRing(t *testing.T) {
	d := opened(t, 10, 10, 10)
	rings(t, d)
	fed(t, d, pk(c, 1, 1, 0))
	rings(t, d, c)
	fed(t, d, pk(a, 1, 2, 0), pk(c, 1, 3, 0), pk(b, 1, 4, 0), pk(a, 1, 5, 0))
	rings(t, d, c, a, b)
	turns(t, d, nobody, false, 0, 0, 0)
	d.Admit(pk(a, 0, 6, 0))
	d.Plan(pk(a, 1, 6, 0), 1)
	rings(t, d, c, a, b)
	next(t, d, 1)
	fed(t, d, pk(c, 1, 6, 0))
	rings(t, d, c, a, b)
	turns(t, d, c, true, 0, 0, 9)
	next(t, d, 3)
	next(t, d, 6)
	rings(t, d, a, b)
	fed(t, d, pk(c, 1, 7, 0))
	rings(t, d, a, b, c)
	turns(t, d, nobody, false, 0, 0, 0)
}

// 15.2: who has nothing left stands in the ring no more, and comes back with the deficit 0.
func TestGoesOutOfTheRing(t *testing.T) {
	for name, empty := range map[string]func(d *drr.DRR){
		"evicted": func(d *drr.DRR) {
			d.Evict(pk(b, 9, 3, 0))
			d.Evict(pk(b, 9, 2, 0))
		},
		"left": func(d *drr.DRR) {
			d.Leave(b, 0)
			d.Join(b, api.Params{Quantum: 4}, 0)
		},
	} {
		t.Run(name, func(t *testing.T) {
			d := opened(t, 3, 4, 20)
			fed(t, d, pk(a, 8, 1, 0), pk(b, 9, 2, 0), pk(b, 9, 3, 0), pk(c, 20, 4, 0), pk(c, 10, 5, 0))
			next(t, d, 4)
			turns(t, d, c, true, 3, 4, 0)
			rings(t, d, c, a, b)
			empty(d)
			rings(t, d, c, a)
			turns(t, d, c, true, 3, 0, 0)
			fed(t, d, pk(b, 9, 6, 0))
			rings(t, d, c, a, b)
			turns(t, d, c, true, 3, 0, 0)
			next(t, d, 5)
			turns(t, d, nobody, false, 6, 4, 0)
			rings(t, d, a, b)
		})
	}
}

// 15.2: a deficit of one who is not open, and of one who has nothing.
func TestDeficitOfNone(t *testing.T) {
	d := exampleOf(t)
	next(t, d, 3)
	d.Leave(a, 0)
	for _, h := range []api.Handle{{}, a, {Slot: 1, Gen: 2}, {Slot: 9, Gen: 1}, {Slot: -1, Gen: 1}, {Slot: math.MinInt, Gen: math.MaxInt}} {
		if n, e := d.Deficit(h); n != 0 || e != api.ErrHandle {
			t.Errorf("Deficit of %v: %d %d", h, n, e)
		}
	}
	if n, e := d.Deficit(b); n != 0 || e != api.OK {
		t.Errorf("Deficit of one who has nothing: %d %d", n, e)
	}
}

// 15.3: the turn is the head's who got it, also when others come and go, till he has nothing or goes to the end.
func TestTurn(t *testing.T) {
	d := opened(t, 10, 10, 10)
	fed(t, d, pk(a, 4, 1, 0), pk(a, 4, 2, 0), pk(b, 10, 3, 0), pk(c, 10, 4, 0), pk(a, 4, 5, 0))
	turns(t, d, nobody, false, 0, 0, 0)
	next(t, d, 1)
	turns(t, d, a, true, 6, 0, 0)
	is(t, "Evict", d.Evict(pk(c, 10, 4, 0)), api.OK)
	turns(t, d, a, true, 6, 0, 0)
	l, e := d.Leave(b, 0)
	numbers(t, "Leave", l, e, 3)
	rings(t, d, a)
	turns(t, d, a, true, 6)
	fed(t, d, pk(c, 10, 6, 0))
	next(t, d, 2)
	turns(t, d, a, true, 2)
	next(t, d, 6)
	turns(t, d, nobody, false, 2)
	rings(t, d, a)
	next(t, d, 5)
	turns(t, d, nobody, false, 0)
}

// 15.3: the turn is nobody's when the one who has it goes out of the ring; the next one gets it only when something is sent.
func TestHolderGoesOut(t *testing.T) {
	for name, empty := range map[string]func(d *drr.DRR){
		"evicted": func(d *drr.DRR) { d.Evict(pk(a, 4, 2, 0)) },
		"left": func(d *drr.DRR) {
			d.Leave(a, 0)
			d.Join(a, api.Params{Quantum: 10}, 0)
		},
	} {
		t.Run(name, func(t *testing.T) {
			d := opened(t, 10, 10, 10)
			fed(t, d, pk(a, 4, 1, 0), pk(a, 4, 2, 0), pk(b, 7, 3, 0), pk(b, 7, 4, 0), pk(c, 8, 5, 0))
			next(t, d, 1)
			turns(t, d, a, true, 6, 0, 0)
			empty(d)
			turns(t, d, nobody, false, 0, 0, 0)
			rings(t, d, b, c)
			fed(t, d, pk(a, 11, 6, 0))
			rings(t, d, b, c, a)
			turns(t, d, nobody, false, 0, 0, 0)
			next(t, d, 3)
			turns(t, d, b, true, 0, 3, 0)
			next(t, d, 5)
			turns(t, d, nobody, false, 0, 3, 0)
			rings(t, d, a, b)
		})
	}
}

// 15.4: a packet that is just as long as the deficit goes, one that is a byte longer does not.
func TestAsLongAsTheDeficit(t *testing.T) {
	d := opened(t, 10, 10)
	fed(t, d, pk(a, 10, 1, 0), pk(a, 10, 2, 0), pk(b, 11, 3, 0), pk(b, 9, 4, 0), pk(a, 20, 5, 0))
	next(t, d, 1)
	turns(t, d, a, true, 0, 0)
	next(t, d, 2)
	turns(t, d, a, true, 0, 10)
	next(t, d, 3)
	turns(t, d, b, true, 0, 9)
	next(t, d, 4)
	turns(t, d, nobody, false, 0, 0)
	next(t, d, 5)
	next(t, d, 0)
}

// 15.4: who has the turn keeps it as long as his deficit lasts, and gets his quantum once a turn.
func TestOneQuantumATurn(t *testing.T) {
	d := opened(t, 100, 1)
	for seq := 1; seq <= 12; seq++ {
		fed(t, d, pk(a, 30, seq, 0))
	}
	fed(t, d, pk(b, 2, 13, 0), pk(b, 1, 14, 0))
	for _, x := range []struct {
		seq    int
		holder api.Handle
		a, b   int
	}{{1, a, 70, 0}, {2, a, 40, 0}, {3, a, 10, 0}, {4, a, 80, 1}, {5, a, 50, 1}, {6, a, 20, 1}, {13, b, 20, 0}, {7, a, 90, 0}, {8, a, 60, 0}, {9, a, 30, 0}, {10, a, 0, 0}} {
		next(t, d, x.seq)
		turns(t, d, x.holder, true, x.a, x.b)
	}
	next(t, d, 14)
	turns(t, d, nobody, false, 0, 0)
	next(t, d, 11)
	next(t, d, 12)
	next(t, d, 0)
}

// 15.4: one who is alone takes as many turns as his packet needs, also when he has the turn already.
func TestAlone(t *testing.T) {
	d := opened(t, 7)
	fed(t, d, pk(a, 65536, 1, 0), pk(a, 1, 2, 0), pk(a, 65536, 3, 0))
	next(t, d, 1)
	turns(t, d, a, true, 5)
	next(t, d, 2)
	turns(t, d, a, true, 4)
	next(t, d, 3)
	turns(t, d, nobody, false, 0)
}

// 15.4: of those who could be sent behind equally many turns the one who stands ahead is found.
func TestManyTurnsInTheirOrder(t *testing.T) {
	d := opened(t, 3, 2, 5, 1)
	last := api.Handle{Slot: 3, Gen: 1}
	fed(t, d, pk(a, 40, 1, 0), pk(b, 20, 2, 0), pk(c, 50, 3, 0), pk(last, 10, 4, 0))
	next(t, d, 2)
	turns(t, d, nobody, false, 30, 0, 45, 9)
	rings(t, d, c, last, a)
	next(t, d, 3)
	turns(t, d, nobody, false, 30, 0, 0, 9)
	next(t, d, 4)
	turns(t, d, nobody, false, 30, 0, 0, 0)
	next(t, d, 1)
}

// 15.4, 15.6: Next and Peek go by the same turns, however often Peek is asked, and however many turns there are.
func TestPeekTakesNoTurn(t *testing.T) {
	const flows = 256
	d := opened(t, slices.Repeat([]int{1}, flows)...)
	for slot := range flows {
		fed(t, d, pk(api.Handle{Slot: slot, Gen: 1}, 65536-slot%100, slot+1, 0))
	}
	ring := d.Ring()
	for range 20000 {
		p, ok := d.Peek(0)
		tells(t, "Peek", p, ok, 100)
	}
	rings(t, d, ring...)
	turns(t, d, nobody, false, make([]int, flows)...)
	next(t, d, 100)
	want := slices.Repeat([]int{65437}, flows)
	want[99] = 0
	for slot := 100; slot < flows; slot++ {
		want[slot] = 65436
	}
	turns(t, d, nobody, false, want...)
	next(t, d, 200)
}

// 15.5: shares are bytes by quantum; of equal ones the greatest slot's is found.
func TestEqualShares(t *testing.T) {
	d := opened(t, 6, 3, 9)
	fed(t, d, pk(c, 9, 1, 0), pk(c, 9, 2, 0), pk(b, 3, 3, 0), pk(b, 3, 4, 0), pk(a, 6, 5, 0), pk(a, 6, 6, 0))
	for n, want := range []int{2, 4, 6, 1, 3, 5, 0} {
		p, ok := d.Worst(n)
		tells(t, "Worst", p, ok, want)
	}
	l, e := d.Plan(pk(b, 3, 7, 0), 1)
	refuses(t, "Plan of one whose share is the most", l, e, api.ErrRefused)
	is(t, "Evict", d.Evict(pk(b, 3, 4, 0)), api.OK)
	l, e = d.Plan(pk(b, 3, 7, 0), 9)
	numbers(t, "Plan of one of a lesser slot", l, e, 2)
	l, e = d.Plan(pk(b, 3, 7, 0), 10)
	refuses(t, "Plan of one of a greater slot", l, e, api.ErrRefused)
	l, e = d.Plan(pk(b, 4, 7, 0), 1)
	refuses(t, "Plan of one whose share is more", l, e, api.ErrRefused)
}

// 15.5: a new packet of one who has nothing queued is looked at too; of its own flow nobody goes for it.
func TestShareOfTheNew(t *testing.T) {
	d := opened(t, 10, 10, 10)
	fed(t, d, pk(a, 20, 1, 0), pk(a, 10, 2, 0), pk(b, 12, 3, 0))
	for size, want := range map[int][]int{11: {2, 1, 3}, 13: {2, 1}, 19: {2, 1}} {
		l, e := d.Plan(pk(c, size, 4, 0), 42)
		if size > 11 {
			refuses(t, "Plan for all", l, e, api.ErrRefused)
			l, e = d.Plan(pk(c, size, 4, 0), 30)
		}
		numbers(t, "Plan", l, e, want...)
	}
	l, e := d.Plan(pk(c, 31, 4, 0), 1)
	refuses(t, "Plan of one whose share is the most", l, e, api.ErrRefused)
	l, e = d.Plan(pk(b, 11, 4, 0), 31)
	refuses(t, "Plan for what only its own flow has", l, e, api.ErrRefused)
	l, e = d.Plan(pk(b, 11, 4, 0), 10)
	numbers(t, "Plan", l, e, 2)
	l, e = d.Plan(pk(b, 11, 4, 0), 11)
	refuses(t, "Plan, its flow's share being 23 against 20", l, e, api.ErrRefused)
	l, e = d.Plan(pk(a, 1, 4, 0), 1)
	refuses(t, "Plan of the one that has the most", l, e, api.ErrRefused)
	l, e = drr.New().Plan(pk(a, 1, 1, 0), 1)
	refuses(t, "Plan of one who is not open", l, e, api.ErrHandle)
}

// 15.5: what was sent counts no more in its flow's share, and deficits count in none.
func TestShareOfWhatIsLeft(t *testing.T) {
	d := opened(t, 30, 30)
	fed(t, d, pk(a, 30, 1, 0), pk(a, 5, 2, 0), pk(b, 20, 3, 0))
	p, ok := d.Worst(0)
	tells(t, "Worst", p, ok, 2)
	next(t, d, 1)
	p, ok = d.Worst(0)
	tells(t, "Worst behind Next", p, ok, 3)
	is(t, "Evict", d.Evict(p), api.OK)
	p, ok = d.Worst(0)
	tells(t, "Worst behind Evict", p, ok, 2)
}

// 15.5: shares are held against each other exactly, however near they are and however long the queues.
func TestNearShares(t *testing.T) {
	const quantum = 1 << 30
	d := opened(t, quantum, quantum-1, quantum)
	seq := 0
	fill := func(h api.Handle, packets int) {
		for range packets {
			seq++
			fed(t, d, pk(h, 65536, seq, 0))
		}
	}
	fill(a, 16384) // 2^30 bytes: the share 1
	seq++
	fed(t, d, pk(a, 1, seq, 0)) // 1 + 2^-30
	lastA := seq
	fill(b, 16384) // 2^30 bytes: the share 1 + 1 / (2^30 - 1)
	p, ok := d.Worst(0)
	tells(t, "Worst", p, ok, seq)
	p, ok = d.Worst(1)
	tells(t, "Worst behind it", p, ok, lastA)
	fill(c, 1)
	fill(a, 1<<18-16384) // 2^34 bytes and 1, which times C's quantum are more than 64 bits hold
	p, ok = d.Worst(0)
	tells(t, "Worst of a long queue", p, ok, seq)
	l, e := d.Plan(pk(c, 65536, seq+1, 0), 65536)
	numbers(t, "Plan", l, e, seq)
}

// 15.6: quanta out of bounds count as the nearest bound.
func TestQuantaOutOfBounds(t *testing.T) {
	for quantum, want := range map[int]int{math.MinInt: 1, -1: 1, 0: 1, 1: 1, 2: 2, 1 << 30: 1 << 30, 1<<30 + 1: 1 << 30, math.MaxInt: 1 << 30} {
		d := opened(t, quantum, 5)
		fed(t, d, pk(a, 1, 1, 0), pk(a, 1, 2, 0), pk(b, 5, 3, 0))
		next(t, d, 1)
		turns(t, d, a, true, want-1, 0)
	}
}

// 15.6: the shares go by the bounded quanta too.
func TestSharesOfQuantaOutOfBounds(t *testing.T) {
	d := opened(t, math.MaxInt, -3, 1, 1<<30)
	fed(t, d, pk(a, 3, 1, 0), pk(b, 2, 2, 0), pk(c, 2, 3, 0), pk(api.Handle{Slot: 3, Gen: 1}, 3, 4, 0))
	for n, want := range []int{3, 2, 4, 1} {
		p, ok := d.Worst(n)
		tells(t, "Worst", p, ok, want)
	}
}

// 15.6: the weights are those of the open flows, as they are.
func TestWeight(t *testing.T) {
	d := drr.New()
	sum := 0
	for slot, weight := range []int{7, 4096, 5000, 0, -3} {
		is(t, "Join", d.Join(api.Handle{Slot: slot}, api.Params{Weight: weight, Quantum: 1}, 0), api.OK)
		sum += weight
		is(t, "Join again", d.Join(api.Handle{Slot: slot, Gen: 1}, api.Params{Weight: 9}, 0), api.ErrHandle)
		if d.Weight(0) != sum {
			t.Fatalf("Weight %d, want %d", d.Weight(0), sum)
		}
	}
	d.Leave(api.Handle{Slot: 1}, 0)
	d.Leave(api.Handle{Slot: 1}, 0)
	if d.Weight(9) != sum-4096 {
		t.Fatalf("Weight %d, want %d", d.Weight(9), sum-4096)
	}
}

// 15.6, 13.2
func TestJoinAndLeave(t *testing.T) {
	d := opened(t, 10, 10)
	is(t, "Join at A's slot", d.Join(api.Handle{Slot: 0, Gen: 2}, api.Params{}, 0), api.ErrHandle)
	is(t, "Join again", d.Join(a, api.Params{Quantum: 99}, 0), api.ErrHandle)
	fed(t, d, pk(a, 1, 1, 0), pk(b, 1, 2, 0), pk(a, 1, 3, 0))
	for _, h := range []api.Handle{c, {Slot: 0, Gen: 2}, {}} {
		l, e := d.Leave(h, 0)
		refuses(t, "Leave of none", l, e, api.ErrHandle)
	}
	l, e := d.Leave(a, 0)
	numbers(t, "Leave", l, e, 1, 3)
	l, e = d.Leave(a, 0)
	refuses(t, "Leave again", l, e, api.ErrHandle)
	is(t, "Join of A's slot", d.Join(api.Handle{Slot: 0, Gen: 2}, api.Params{Quantum: 3}, 0), api.OK)
	is(t, "Admit of the old A", d.Admit(pk(a, 1, 4, 0)), api.ErrHandle)
	l, e = d.Leave(api.Handle{Slot: 0, Gen: 2}, 0)
	numbers(t, "Leave of one that has nothing", l, e)
	is(t, "Join of A anew", d.Join(a, api.Params{}, 0), api.OK)
	l, e = d.Leave(a, 0)
	numbers(t, "Leave: what it had before is gone", l, e)
	if d.Len() != 1 {
		t.Fatalf("Len %d", d.Len())
	}
	rings(t, d, b)
}

// wrong are packets that may not come to A and B when the number 5 came last, at the tick 9, with the error of each.
func wrong() map[api.Packet]api.Errno {
	return map[api.Packet]api.Errno{
		pk(api.Handle{Slot: 0, Gen: 2}, 1, 6, 9): api.ErrHandle,
		pk(api.Handle{}, 1, 6, 9):                api.ErrHandle,
		pk(api.Handle{Slot: 9}, 0, 0, -1):        api.ErrHandle,
		pk(a, 0, 6, 9):                           api.ErrArg,
		pk(a, -1, 6, 9):                          api.ErrArg,
		pk(a, 65537, 6, 9):                       api.ErrArg,
		pk(a, math.MaxInt, 6, 9):                 api.ErrArg,
		pk(a, math.MinInt, 6, 9):                 api.ErrArg,
		pk(a, 1, 5, 9):                           api.ErrArg,
		pk(b, 1, 4, 9):                           api.ErrArg,
		pk(a, 1, 0, 9):                           api.ErrArg,
		pk(a, 1, -1, 9):                          api.ErrArg,
		pk(a, 1, math.MinInt, 9):                 api.ErrArg,
		pk(a, 1, 6, 8):                           api.ErrArg,
		pk(b, 1, 6, 0):                           api.ErrArg,
		pk(a, 1, 6, -1):                          api.ErrArg,
		pk(a, 1, 6, math.MinInt):                 api.ErrArg,
		pk(a, 1, 6, 1<<62+1):                     api.ErrArg,
		pk(a, 1, 6, math.MaxInt):                 api.ErrArg,
		pk(a, 1, 6, 9):                           api.OK,
		pk(b, 65536, 6, 9):                       api.OK,
		pk(a, 1, math.MaxInt, 1<<62):             api.OK,
	}
}

// 15.6, 13.3, 13.4: the packets that came last count also when they are queued no more.
func TestWhatMayNotCome(t *testing.T) {
	for p, want := range wrong() {
		d := opened(t, 10, 10)
		fed(t, d, pk(b, 1, 2, 3), pk(b, 1, 5, 9))
		next(t, d, 2)
		is(t, "Evict", d.Evict(pk(b, 1, 5, 9)), api.OK)
		for _, need := range []int{math.MinInt, 0} {
			l, e := d.Plan(p, need)
			refuses(t, "Plan", l, e, want)
		}
		refused := want
		if want == api.OK {
			refused = api.ErrRefused
		}
		for _, need := range []int{1, math.MaxInt} {
			l, e := d.Plan(p, need)
			refuses(t, "Plan", l, e, refused)
		}
		rings(t, d)
		is(t, "Admit", d.Admit(p), want)
		if got := d.Len(); got != map[api.Errno]int{api.OK: 1}[want] {
			t.Errorf("%v: Len %d", p, got)
		}
	}
}

// 15.6, 13.3: numbers are from 1 on, ticks from 0 on, also of the first packet; a refused one leaves no number and no tick.
func TestTheFirstThatComes(t *testing.T) {
	d := opened(t, 1, 1)
	for _, p := range []api.Packet{pk(a, 1, 0, 0), pk(a, 1, -1, 0), pk(a, 1, 1, -1), pk(a, 0, 99, 99), pk(c, 1, 99, 99)} {
		if e := d.Admit(p); e == api.OK {
			t.Errorf("%v is taken", p)
		}
	}
	d.Plan(pk(a, 1, 99, 99), 0)
	fed(t, d, pk(a, 1, 1, 0))
}

// 15.6, 13.5
func TestEvict(t *testing.T) {
	d := opened(t, 10, 10)
	fed(t, d, pk(a, 10, 1, 0), pk(b, 10, 2, 0), pk(a, 10, 3, 0), pk(a, 10, 4, 0))
	for _, p := range []api.Packet{pk(a, 10, 1, 0), pk(a, 10, 3, 0), pk(a, 10, 2, 0), pk(b, 10, 4, 0), pk(a, 10, 0, 0), pk(a, 10, 5, 0), pk(c, 10, 4, 0), pk(api.Handle{Slot: 0, Gen: 2}, 10, 4, 0), {}} {
		is(t, "Evict", d.Evict(p), api.ErrItem)
	}
	if d.Len() != 4 {
		t.Fatalf("Len %d", d.Len())
	}
	is(t, "Evict 4 by its flow and number alone", d.Evict(api.Packet{Flow: a, ID: 8, Size: -3, Seq: 4, Came: 99}), api.OK)
	is(t, "Evict 4 again", d.Evict(pk(a, 10, 4, 0)), api.ErrItem)
	p, ok := d.Worst(0)
	tells(t, "Worst: A has 20 of 10", p, ok, 3)
	is(t, "Evict 3", d.Evict(pk(a, 10, 3, 0)), api.OK)
	p, ok = d.Worst(0)
	tells(t, "Worst: both have 10 of 10", p, ok, 2)
	is(t, "Evict 1", d.Evict(pk(a, 10, 1, 0)), api.OK)
	is(t, "Evict of none", d.Evict(pk(a, 10, 1, 0)), api.ErrItem)
	next(t, d, 2)
	is(t, "Evict of one that was told", d.Evict(pk(b, 10, 2, 0)), api.ErrItem)
}

// 15.6, 13.7
func TestWorstOfNone(t *testing.T) {
	d := opened(t, 10)
	for _, n := range []int{0, 1, -1, math.MinInt, math.MaxInt} {
		p, ok := d.Worst(n)
		tells(t, "Worst", p, ok, 0)
	}
	fed(t, d, pk(a, 5, 1, 0))
	for n, want := range map[int]int{0: 1, 1: 0, -1: 0, math.MinInt: 0, math.MaxInt: 0} {
		p, ok := d.Worst(n)
		tells(t, "Worst", p, ok, want)
	}
}

// 15.6: what is told is the packet as it came.
func TestTellsTheWholePacket(t *testing.T) {
	d := opened(t, 3)
	whole := api.Packet{Flow: a, ID: -9, Size: 65536, Seq: 4, Came: 1 << 62}
	fed(t, d, whole)
	p, ok := d.Peek(0)
	alike(t, "Peek", p, ok, whole, true)
	p, ok = d.Worst(0)
	alike(t, "Worst", p, ok, whole, true)
	p, ok = d.Next(0)
	alike(t, "Next", p, ok, whole, true)
}
