package gps_test

import (
	"math"
	"math/big"
	"slices"
	"testing"

	"millrace/api"
	"millrace/gps"
	"millrace/rat"
)

// answer is what Tag and Admit tell, as a text each.
type answer struct {
	start, tag string
	e          api.Errno
}

// answers asks a call of Tag or Admit to tell so.
func answers(t *testing.T, what string, start, tag rat.Rat, e api.Errno, want answer) {
	t.Helper()
	if got := (answer{text(start), text(tag), e}); got != want {
		t.Fatalf("%s: %v, want %v", what, got, want)
	}
}

// fed is a Tracker that was fed, which must go well.
func fed(t *testing.T, packets ...[3]int) *gps.Tracker {
	t.Helper()
	g := gps.New()
	feed(t, g, packets...)
	return g
}

func feed(t *testing.T, g *gps.Tracker, packets ...[3]int) {
	t.Helper()
	for _, p := range packets {
		if _, _, e := g.Admit(p[0], p[1], p[2]); e != api.OK {
			t.Fatalf("Admit of %v: %v", p, e)
		}
	}
}

// tells asks for the time, V, the flows and the sum of their weights.
func tells(t *testing.T, what string, g *gps.Tracker, time int, virtual string, weight int, flows ...int) {
	t.Helper()
	if g.Time() != time || text(g.Virtual()) != virtual || g.Weight() != weight || !slices.Equal(g.Flows(), flows) {
		t.Fatalf("%s: time %d, V %s, weight %d, flows %v, want %d, %s, %d, %v", what, g.Time(), text(g.Virtual()), g.Weight(), g.Flows(), time, virtual, weight, flows)
	}
	for _, flow := range flows {
		if !g.Has(flow) {
			t.Fatalf("%s: Has(%d) is false", what, flow)
		}
	}
}

// The chapter's examples.
func TestExamples(t *testing.T) {
	g := gps.New()
	start, tag, e := g.Admit(1, 1, 10)
	answers(t, "flow 1", start, tag, e, answer{"0/1", "10/1", api.OK})
	start, tag, e = g.Admit(2, 3, 10)
	answers(t, "flow 2", start, tag, e, answer{"0/1", "10/3", api.OK})
	tells(t, "at 0", g, 0, "0/1", 4, 1, 2)
	g.Advance(4)
	tells(t, "at 4", g, 4, "1/1", 4, 1, 2)
	is(t, "Left(1)", g.Left(1), count(9))
	is(t, "Left(2)", g.Left(2), count(7))
	g.Advance(14)
	tells(t, "at 14", g, 14, "4/1", 1, 1)
	is(t, "Left(1)", g.Left(1), count(6))
	for _, x := range []struct {
		flow, weight, size int
		want               answer
	}{
		{1, 1, 5, answer{"10/1", "15/1", api.OK}},
		{1, 2, 5, answer{"0/1", "0/1", api.ErrWeight}},
		{2, 2, 5, answer{"4/1", "13/2", api.OK}},
		{3, 0, 5, answer{"0/1", "0/1", api.ErrWeight}},
		{3, 1, 0, answer{"0/1", "0/1", api.ErrSize}},
	} {
		start, tag, e = g.Tag(x.flow, x.weight, x.size)
		answers(t, "Tag", start, tag, e, x.want)
	}
	g.Advance(20)
	tells(t, "at 20", g, 20, "0/1", 0)
	start, tag, e = g.Admit(1, 2, 6)
	answers(t, "flow 1 anew", start, tag, e, answer{"0/1", "3/1", api.OK})
	g.Advance(5)
	g.Advance(3)
	tells(t, "an earlier tick", g, 20, "0/1", 2, 1)
}

// 11.1
func TestNewHasNothing(t *testing.T) {
	g := gps.New()
	tells(t, "a new one", g, 0, "0/1", 0)
	for _, flow := range []int{math.MinInt, -1, 0, 1, math.MaxInt} {
		if g.Has(flow) {
			t.Fatalf("Has(%d)", flow)
		}
		is(t, "Left", g.Left(flow), new(big.Rat))
		start, tag, e := g.Tag(flow, 3, 6)
		answers(t, "Tag", start, tag, e, answer{"0/1", "2/1", api.OK})
	}
	tells(t, "a new one that was asked", g, 0, "0/1", 0)
}

func TestTwoHaveNothingInCommon(t *testing.T) {
	a, b := fed(t, [3]int{1, 1, 10}), gps.New()
	tells(t, "the other one", b, 0, "0/1", 0)
	b.Advance(7)
	feed(t, b, [3]int{1, 5, 10})
	tells(t, "the first one", a, 0, "0/1", 1, 1)
	is(t, "the first one's Left", a.Left(1), count(10))
}

// 11.2: only a later tick is one.
func TestAdvanceToAnEarlierTick(t *testing.T) {
	g := fed(t, [3]int{1, 2, 100})
	for _, tick := range []int{math.MinInt, -1, 0} {
		g.Advance(tick)
		tells(t, "a tick up to 0", g, 0, "0/1", 2, 1)
	}
	g.Advance(30)
	for _, tick := range []int{math.MinInt, -30, 0, 29, 30} {
		g.Advance(tick)
		tells(t, "a tick up to 30", g, 30, "15/1", 2, 1)
		is(t, "Left", g.Left(1), count(70))
	}
	g.Advance(31)
	tells(t, "the next tick", g, 31, "31/2", 2, 1)
}

// 11.2: V goes on by 1 / Weight() a tick, and at another pace from the very moment at which a flow leaves.
func TestPaceChangesBetweenTicks(t *testing.T) {
	// By weights 2, 3 and 5: the flow 3 leaves at V 1/5, at the tick 2; the flow 2 at V 2/3, at 2 + 5 * 7/15 = 13/3; the flow 1 at V 4, at the tick 11.
	g := fed(t, [3]int{1, 2, 8}, [3]int{2, 3, 2}, [3]int{3, 5, 1})
	tells(t, "at 0", g, 0, "0/1", 10, 1, 2, 3)
	g.Advance(1)
	tells(t, "at 1", g, 1, "1/10", 10, 1, 2, 3)
	g.Advance(2)
	tells(t, "at 2", g, 2, "1/5", 5, 1, 2)
	g.Advance(4)
	tells(t, "at 4", g, 4, "3/5", 5, 1, 2)
	g.Advance(5)
	tells(t, "at 5", g, 5, "1/1", 2, 1)
	g.Advance(10)
	tells(t, "at 10", g, 10, "7/2", 2, 1)
	g.Advance(11)
	tells(t, "at 11", g, 11, "0/1", 0)
	is(t, "Left", g.Left(1), new(big.Rat))
}

// 11.2: a flow leaves at the very moment at which V reaches its last tag, however many do at once.
func TestManyLeaveAtOneMoment(t *testing.T) {
	g := fed(t, [3]int{4, 1, 3}, [3]int{3, 2, 6}, [3]int{2, 4, 12}, [3]int{1, 1, 4}, [3]int{-1, 4096, 3 * 4096})
	whole := 3 + 6 + 12 + 3 + 3*4096
	g.Advance(whole - 1)
	tells(t, "a tick ahead of it", g, whole-1, big.NewRat(int64(whole-1), 4104).String(), 4104, -1, 1, 2, 3, 4)
	g.Advance(whole)
	tells(t, "at it", g, whole, "3/1", 1, 1)
	g.Advance(whole + 1)
	tells(t, "the last one leaves", g, whole+1, "0/1", 0)
}

// 11.2: when it has none left V is 0, last tags are forgotten, and so it stays.
func TestEmptyFluidForgets(t *testing.T) {
	g := fed(t, [3]int{1, 1, 10}, [3]int{2, 2, 5})
	g.Advance(15)
	tells(t, "at the moment", g, 15, "0/1", 0)
	start, tag, e := g.Tag(1, 7, 14)
	answers(t, "another weight", start, tag, e, answer{"0/1", "2/1", api.OK})
	g.Advance(1000)
	tells(t, "later", g, 1000, "0/1", 0)
	feed(t, g, [3]int{2, 3, 9})
	tells(t, "fed anew", g, 1000, "0/1", 3, 2)
	g.Advance(1006)
	tells(t, "on its way", g, 1006, "2/1", 3, 2)
	g.Advance(1010)
	tells(t, "done between", g, 1010, "0/1", 0)
}

// 11.2: a flow that left while others stay begins at V, not at its old tag, and may have another weight.
func TestFlowThatCameBack(t *testing.T) {
	g := fed(t, [3]int{1, 1, 100}, [3]int{2, 1, 5})
	g.Advance(10)
	tells(t, "at its last tag", g, 10, "5/1", 1, 1)
	start, tag, e := g.Tag(2, 4, 8)
	answers(t, "at its last tag", start, tag, e, answer{"5/1", "7/1", api.OK})
	g.Advance(20)
	start, tag, e = g.Admit(2, 4, 8)
	answers(t, "later", start, tag, e, answer{"15/1", "17/1", api.OK})
	tells(t, "back", g, 20, "15/1", 5, 1, 2)
	start, tag, e = g.Tag(2, 1, 8)
	answers(t, "the old weight", start, tag, e, answer{"0/1", "0/1", api.ErrWeight})
}

// 11.2: MaxTime is not asked.
func TestAdvanceFarBeyond(t *testing.T) {
	g := gps.New()
	g.Advance(api.MaxTime + 1)
	tells(t, "behind MaxTime", g, api.MaxTime+1, "0/1", 0)
	feed(t, g, [3]int{1, 3, 10})
	g.Advance(api.MaxTime + 3)
	tells(t, "two ticks on", g, api.MaxTime+3, "2/3", 3, 1)
	g.Advance(math.MaxInt)
	tells(t, "the last tick", g, math.MaxInt, "0/1", 0)
	feed(t, g, [3]int{1, 3, 10})
	g.Advance(math.MaxInt)
	tells(t, "the last tick again", g, math.MaxInt, "0/1", 3, 1)
	g = fed(t, [3]int{1, 1, 65536})
	g.Advance(math.MaxInt)
	tells(t, "in one step", g, math.MaxInt, "0/1", 0)
}

// 11.3, 11.4: the bounds of weight and size, the weight first.
func TestTagRefuses(t *testing.T) {
	goodWeights, badWeights := []int{1, 2, 4095, 4096}, []int{math.MinInt, -1, 0, 4097, math.MaxInt}
	goodSizes, badSizes := []int{1, 2, 65535, 65536}, []int{math.MinInt, -1, 0, 65537, math.MaxInt}
	b := begin(t)
	b.admit(7, 9, 20)
	b.advance(3)
	ask := func(flow, weight, size int, want api.Errno) {
		t.Helper()
		if e := b.tag(flow, weight, size); e != want {
			t.Fatalf("Tag(%d, %d, %d): %v", flow, weight, size, e)
		}
		if want != api.OK {
			if e := b.admit(flow, weight, size); e != want {
				t.Fatalf("Admit(%d, %d, %d): %v", flow, weight, size, e)
			}
		}
		b.same(flow)
	}
	for _, flow := range []int{7, 8} {
		for _, size := range append(badSizes, goodSizes...) {
			for _, weight := range badWeights {
				ask(flow, weight, size, api.ErrWeight)
			}
		}
	}
	for _, size := range append(badSizes, goodSizes...) {
		for _, weight := range append(goodWeights, 8, 10) {
			ask(7, weight, size, api.ErrWeight)
		}
	}
	for _, weight := range goodWeights {
		for _, size := range badSizes {
			ask(8, weight, size, api.ErrSize)
		}
		for _, size := range goodSizes {
			ask(8, weight, size, api.OK)
		}
	}
	for _, size := range badSizes {
		ask(7, 9, size, api.ErrSize)
	}
	for _, size := range goodSizes {
		ask(7, 9, size, api.OK)
	}
}

// 11.3: a start is the flow's last tag, if the fluid has it, else V; Tag changes nothing.
func TestTagChangesNothing(t *testing.T) {
	g := fed(t, [3]int{1, 2, 10}, [3]int{1, 2, 3})
	g.Advance(4)
	for range 3 {
		start, tag, e := g.Tag(1, 2, 5)
		answers(t, "Tag of one that it has", start, tag, e, answer{"13/2", "9/1", api.OK})
		start, tag, e = g.Tag(2, 3, 5)
		answers(t, "Tag of another", start, tag, e, answer{"2/1", "11/3", api.OK})
		tells(t, "after Tags", g, 4, "2/1", 2, 1)
		is(t, "Left", g.Left(1), count(9))
	}
}

// 11.4: the tag is the flow's last one from then on, and the weight its.
func TestAdmitKeepsTagAndWeight(t *testing.T) {
	g := gps.New()
	for i, want := range []answer{{"0/1", "7/3", api.OK}, {"7/3", "14/3", api.OK}, {"14/3", "7/1", api.OK}} {
		start, tag, e := g.Tag(5, 3, 7)
		answers(t, "Tag ahead", start, tag, e, want)
		start, tag, e = g.Admit(5, 3, 7)
		answers(t, "Admit", start, tag, e, want)
		is(t, "Left", g.Left(5), count(7*(i+1)))
		tells(t, "behind it", g, 0, "0/1", 3, 5)
	}
	_, _, e := g.Admit(5, 4, 7)
	if e != api.ErrWeight {
		t.Fatalf("another weight: %v", e)
	}
}

// deepen lets the denominators grow: one comes as soon as one of three has left, so that V hangs on all that came ahead.
func deepen(b both, n *noise, until func() bool) {
	b.t.Helper()
	for flow := 1; !until(); {
		if len(b.m.flows()) < 3 {
			b.admit(flow, 1000+n.below(3097), 20+n.below(40))
			flow++
		} else {
			b.advance(b.m.time + 1 + n.below(8))
		}
		if flow > 5000 {
			b.t.Fatal("the denominators do not grow")
		}
	}
}

// atTheBound asks for tags of a new flow at a V that has nearly as many digits as a tag may have, and counts how many they would have.
func atTheBound(t *testing.T, n *noise, seen map[int]int) {
	t.Helper()
	b := begin(t)
	deepen(b, n, func() bool { return b.m.virtual.Denom().BitLen() > 2038 })
	for weight := 1; weight <= 4096; weight += 1 + n.below(8) {
		size := 1 + n.below(65536)
		long := plus(b.m.virtual, big.NewRat(int64(size), int64(weight))).Denom().BitLen()
		seen[long]++
		e := b.tag(-1, weight, size)
		if (e == api.ErrDeep) != (long > 2048) {
			t.Fatalf("%d digits: %v", long, e)
		}
		if e == api.ErrDeep {
			b.admit(-1, weight, size)
		}
	}
	b.same(-1)
}

// 11.3: a tag's denominator may have 2,048 binary digits, in lowest terms, and no more.
func TestDeepTags(t *testing.T) {
	n := noise(1135)
	seen := map[int]int{}
	for range 3 {
		atTheBound(t, &n, seen)
	}
	if seen[2048] == 0 || seen[2049] == 0 {
		t.Errorf("no tag on one side of the bound was asked for: %v", seen)
	}
}

// 11.3: the digits are counted in lowest terms: V's denominator may be longer, if size / weight makes the sum's shorter.
func TestDeepInLowestTerms(t *testing.T) {
	n := noise(1132)
	b := begin(t)
	seen := 0
	deepen(b, &n, func() bool {
		long := b.m.virtual.Denom()
		for twos := 1; twos <= 12 && long.BitLen() > 2048; twos++ {
			for size := 1; size < 1<<twos; size += 2 {
				if _, _, e := b.m.tag(-1, 1<<twos, size); e == api.OK {
					b.tag(-1, 1<<twos, size)
					seen++
				}
			}
		}
		return seen > 0
	})
}

// 11.3: behind a time in which the fluid had something always, the denominators are short again.
func TestDeepEndsWhenEmpty(t *testing.T) {
	n := noise(1131)
	b := begin(t)
	deep := false
	deepen(b, &n, func() bool {
		deep = deep || b.tag(9, 4091, 1) == api.ErrDeep
		return deep
	})
	b.admit(9, 4091, 1)
	b.same(9)
	b.advance(b.m.time + 1<<20)
	b.same(9)
	if e := b.admit(9, 4091, 1); e != api.OK {
		t.Fatalf("behind an empty fluid: %v", e)
	}
}

// 11.5: Flows are rising, and are told in memory of their own.
func TestFlowsAreNewMemory(t *testing.T) {
	want := []int{math.MinInt, -5, -1, 0, 1, 6, 1000, math.MaxInt}
	g := fed(t, [3]int{6, 1, 5}, [3]int{math.MaxInt, 1, 5}, [3]int{-5, 1, 5}, [3]int{0, 1, 5}, [3]int{math.MinInt, 1, 5}, [3]int{1000, 1, 5}, [3]int{-1, 1, 5}, [3]int{1, 1, 5})
	for range 3 {
		l := g.Flows()
		if !slices.Equal(l, want) {
			t.Fatalf("Flows: %v", l)
		}
		l = l[:cap(l)]
		for i := range l {
			l[i] = 77
		}
	}
	tells(t, "scribbled over", g, 0, "0/1", 8, want...)
}

// 11.5: the sum of the weights is that of the flows that it has, a flow of many packets counted once.
func TestWeightOfManyFlows(t *testing.T) {
	g := gps.New()
	for flow := range 3000 {
		feed(t, g, [3]int{flow, 4096, 1}, [3]int{flow, 4096, 1})
	}
	if g.Weight() != 3000*4096 || len(g.Flows()) != 3000 {
		t.Fatalf("Weight %d of %d flows", g.Weight(), len(g.Flows()))
	}
	g.Advance(5999)
	if g.Weight() != 3000*4096 {
		t.Fatalf("Weight %d a tick ahead of the end", g.Weight())
	}
	is(t, "Left", g.Left(17), big.NewRat(1, 3000))
	g.Advance(6000)
	tells(t, "at the end", g, 6000, "0/1", 0)
}
