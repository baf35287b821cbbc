package clock_test

import (
	"math"
	"math/big"
	"slices"
	"testing"

	"millrace/clock"
)

// That these are clocks is settled when the tests are built.
var (
	_ clock.Clock = clock.Func(nil)
	_ clock.Clock = (*clock.Fake)(nil)
	_ clock.Clock = (*clock.Steps)(nil)
	_ clock.Clock = own{}
)

// own is a clock of a caller's; a struct with a list in it can't be held against another one.
type own struct{ readings []int }

func (o own) Now() int { return len(o.readings) }

// noise gives the same words in every run.
type noise uint64

func (n *noise) word() uint64 {
	*n += 0x9e3779b97f4a7c15
	z := uint64(*n)
	z = (z ^ z>>30) * 0xbf58476d1ce4e5b9
	z = (z ^ z>>27) * 0x94d049bb133111eb
	return z ^ z>>31
}

func (n *noise) below(bound int) int { return int(n.word() % uint64(bound)) }

// edges are readings next to all that the document names.
var edges = []int{
	math.MinInt, math.MinInt + 1, -1 << 62, -1, 0, 1, 2,
	1<<62 - 1, 1 << 62, 1<<62 + 1, math.MaxInt - 1, math.MaxInt,
}

// reads asks a clock for these readings, one behind the other.
func reads(t *testing.T, what string, c clock.Clock, want ...int) {
	t.Helper()
	for i, w := range want {
		if n := c.Now(); n != w {
			t.Fatalf("%s: Now number %d: %d, want %d", what, i+1, n, w)
		}
	}
}

// 7.1: a function is a clock, and Now calls it, once a call.
func TestFuncCallsTheFunction(t *testing.T) {
	calls := 0
	f := clock.Func(func() int { calls++; return 10 * calls })
	if calls != 0 {
		t.Fatal("called ahead of Now")
	}
	reads(t, "a function", f, 10, 20, 30)
	if calls != 3 {
		t.Fatalf("%d calls of the function for 3 of Now", calls)
	}
	for _, e := range edges {
		reads(t, "an edge", clock.Func(func() int { return e }), e)
	}
}

// 7.1: methods of other clocks are functions too.
func TestFuncOfAMethod(t *testing.T) {
	f := clock.NewFake(3)
	c := clock.Func(f.Now)
	reads(t, "a method", c, 3)
	f.Set(-8)
	reads(t, "a method of what was set", c, -8)
}

// 7.1: of a nil Func Now is 0.
func TestNilFunc(t *testing.T) {
	reads(t, "nil", clock.Func(nil), 0, 0)
	var f clock.Func
	reads(t, "no function", f, 0)
}

// 7.2: a Fake stands where it was made or set.
func TestFakeStands(t *testing.T) {
	for _, a := range edges {
		f := clock.NewFake(a)
		reads(t, "made", f, a, a, a)
		for _, b := range edges {
			f.Set(b)
			reads(t, "set", f, b, b)
		}
	}
}

// stepped is where a step ends, reckoned in whole numbers of any length.
func stepped(at, d int) int {
	sum := new(big.Int).Add(big.NewInt(int64(at)), big.NewInt(int64(d)))
	switch {
	case sum.IsInt64():
		return int(sum.Int64())
	case d < 0:
		return math.MinInt
	}
	return math.MaxInt
}

// 7.2: Step moves it, and stops at the greatest and at the least int.
func TestFakeSteps(t *testing.T) {
	f := clock.NewFake(7)
	f.Step(-10)
	reads(t, "7 - 10", f, -3)
	f.Step(0)
	reads(t, "by 0", f, -3, -3)
	f.Step(5)
	reads(t, "by 5", f, 2)
	for _, at := range edges {
		for _, d := range edges {
			f.Set(at)
			f.Step(d)
			reads(t, "an edge by an edge", f, stepped(at, d))
		}
	}
	n := noise(72)
	at := 0
	f = clock.NewFake(at)
	for range 20_000 {
		d := int(n.word()) >> n.below(64)
		f.Step(d)
		at = stepped(at, d)
		reads(t, "any step", f, at)
	}
}

// 7.2: two Fakes have nothing in common.
func TestFakesApart(t *testing.T) {
	a, b := clock.NewFake(4), clock.NewFake(4)
	a.Step(1)
	b.Set(9)
	reads(t, "the first one", a, 5)
	reads(t, "the other one", b, 9)
}

// 7.3: Steps tells its readings, then the last one again.
func TestStepsTellsItsList(t *testing.T) {
	reads(t, "three", clock.NewSteps(5, 3, 9), 5, 3, 9, 9, 9, 9)
	reads(t, "equal ones", clock.NewSteps(2, 2, 1, 1, 7), 2, 2, 1, 1, 7, 7)
	reads(t, "one", clock.NewSteps(-6), -6, -6, -6)
	reads(t, "edges", clock.NewSteps(edges...), append(slices.Clone(edges), math.MaxInt)...)
	reads(t, "0 at the end", clock.NewSteps(8, 0), 8, 0, 0)
}

// 7.3: of an empty list Now is 0; nil is empty too.
func TestStepsOfNothing(t *testing.T) {
	reads(t, "none", clock.NewSteps(), 0, 0, 0)
	reads(t, "nil", clock.NewSteps([]int(nil)...), 0, 0)
	reads(t, "empty", clock.NewSteps([]int{}...), 0, 0)
	reads(t, "empty, with room", clock.NewSteps([]int{4, 5}[:0]...), 0, 0)
}

// 7.3: the list is copied, and neither it nor what is behind its end is changed or told.
func TestStepsCopiesItsList(t *testing.T) {
	room := []int{5, 3, 9, 70, 71}
	list := room[:3]
	a, b := clock.NewSteps(list...), clock.NewSteps(list...)
	reads(t, "ahead of a change", a, 5)
	if !slices.Equal(room, []int{5, 3, 9, 70, 71}) {
		t.Fatalf("the caller's list is %v", room)
	}
	for i := range room {
		room[i] = -1
	}
	reads(t, "behind a change", a, 3, 9, 9)
	reads(t, "another of the same list", b, 5, 3, 9, 9)
	if !slices.Equal(room, []int{-1, -1, -1, -1, -1}) {
		t.Fatalf("the caller's list is %v", room)
	}
}

// 7.3: a long list, of any readings.
func TestStepsOfManyReadings(t *testing.T) {
	n := noise(73)
	list := make([]int, 100_000)
	for i := range list {
		list[i] = int(n.word())
	}
	s := clock.NewSteps(list...)
	reads(t, "many", s, list...)
	reads(t, "behind many", s, list[len(list)-1], list[len(list)-1])
}
