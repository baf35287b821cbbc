package clock_test

import (
	"math"
	"slices"
	"testing"

	"millrace/api"
	"millrace/clock"
)

// over is a clamp over c, which must be given.
func over(t *testing.T, c clock.Clock) *clock.Clamp {
	t.Helper()
	x, e := clock.NewClamp(c)
	if x == nil || e != api.OK {
		t.Fatalf("NewClamp: %v %v", x, e)
	}
	return x
}

// answer is what a clamp's call answers.
type answer struct {
	time int
	e    api.Errno
}

// told is what a call answered, as one value.
func told(n int, e api.Errno) answer { return answer{n, e} }

// at is the answer of a time.
func at(n int) answer { return answer{n, api.OK} }

// expired is the answer when time is at its end.
var expired = answer{0, api.ErrExpired}

// same asks for an answer.
func same(t *testing.T, what string, got, want answer) {
	t.Helper()
	if got != want {
		t.Fatalf("%s: %v, want %v", what, got, want)
	}
}

// asked is a clock that counts how often it is asked.
type asked struct {
	clock.Clock
	times int
}

func (a *asked) Now() int {
	a.times++
	return a.Clock.Now()
}

// bad is a clock whose Now panics.
type bad struct{}

func (bad) Now() int { panic("no reading") }

// times are the answers to these readings, reckoned from all of them each time.
func times(readings []int) []answer {
	var all []answer
	for i := range readings {
		most := max(0, slices.Max(readings[:i+1]))
		if most > 1<<62 {
			all = append(all, expired)
		} else {
			all = append(all, at(most))
		}
	}
	return all
}

// follows hands the readings in to two clamps, to one by Read and to one by At, and asks for the answers and for Last behind each.
func follows(t *testing.T, readings []int, want []answer) {
	t.Helper()
	f := clock.NewFake(0)
	byRead, byAt := over(t, f), over(t, clock.Func(nil))
	for i, r := range readings {
		f.Set(r)
		if got := told(byRead.Read()); got != want[i] {
			t.Fatalf("Read number %d of %v: %v, want %v", i+1, readings, got, want[i])
		}
		if got := told(byAt.At(r)); got != want[i] {
			t.Fatalf("At number %d of %v: %v, want %v", i+1, readings, got, want[i])
		}
		if a, b := told(byRead.Last()), told(byAt.Last()); a != want[i] || b != want[i] {
			t.Fatalf("Last number %d of %v: %v and %v, want %v", i+1, readings, a, b, want[i])
		}
	}
}

// 7.4: no clamp over no clock.
func TestClampOfNil(t *testing.T) {
	if x, e := clock.NewClamp(nil); x != nil || e != api.ErrClock {
		t.Fatalf("nil: %v %v", x, e)
	}
	var c clock.Clock
	if x, e := clock.NewClamp(c); x != nil || e != api.ErrClock {
		t.Fatalf("a Clock of nothing: %v %v", x, e)
	}
}

// 7.4: a nil pointer, or a nil function, in an interface is a clock; what its Now does is its own.
func TestClampOfNilPointers(t *testing.T) {
	for _, c := range []clock.Clock{(*clock.Fake)(nil), (*clock.Steps)(nil), (*asked)(nil)} {
		x := over(t, c)
		same(t, "Last", told(x.Last()), at(0))
		same(t, "At", told(x.At(6)), at(6))
	}
	x := over(t, clock.Func(nil))
	same(t, "Read of a nil Func", told(x.Read()), at(0))
}

// 7.4: a new clamp is at 0, whatever its clock says; it takes clocks of any type.
func TestNewClampIsAtZero(t *testing.T) {
	for _, e := range edges {
		same(t, "new", told(over(t, clock.NewFake(e)).Last()), at(0))
	}
	x := over(t, own{[]int{1, 1, 1}})
	same(t, "a clock of a caller's", told(x.Read()), at(3))
	same(t, "a clock that panics", told(over(t, bad{}).Last()), at(0))
}

// 7.4, 7.5: clamps over one clock have nothing else in common.
func TestClampsApart(t *testing.T) {
	s := clock.NewSteps(5, 3, 9)
	a, b := over(t, s), over(t, s)
	same(t, "the first one", told(a.Read()), at(5))
	same(t, "the other one", told(b.Read()), at(3))
	same(t, "past the end", told(a.At(1<<62+1)), expired)
	same(t, "the other one still", told(b.Read()), at(9))
	same(t, "the first one's Last", told(a.Last()), expired)
}

// 7.5: the times of readings, and their end.
func TestClampTimes(t *testing.T) {
	x := over(t, clock.NewSteps(-4, 5, 3, 1<<62))
	same(t, "-4", told(x.Read()), at(0))
	same(t, "5", told(x.Read()), at(5))
	same(t, "3", told(x.Read()), at(5))
	same(t, "2^62", told(x.Read()), at(1<<62))
	same(t, "At 7", told(x.At(7)), at(1<<62))
	same(t, "At 2^62 + 1", told(x.At(1<<62+1)), expired)
	same(t, "At 3", told(x.At(3)), expired)
	same(t, "At 2^62", told(x.At(1<<62)), expired)
	same(t, "Last", told(x.Last()), expired)
	same(t, "Read", told(x.Read()), expired)
}

// 7.5: Read and At go on from each other.
func TestReadAndAtTogether(t *testing.T) {
	f := clock.NewFake(10)
	x := over(t, f)
	same(t, "At 4", told(x.At(4)), at(4))
	same(t, "Last", told(x.Last()), at(4))
	same(t, "Read 10", told(x.Read()), at(10))
	same(t, "At 6", told(x.At(6)), at(10))
	same(t, "At 12", told(x.At(12)), at(12))
	same(t, "Read 10 again", told(x.Read()), at(12))
	f.Set(math.MaxInt)
	same(t, "At behind a clock that was set", told(x.At(13)), at(13))
	same(t, "Read of the greatest int", told(x.Read()), expired)
	f.Set(20)
	same(t, "Read of 20", told(x.Read()), expired)
}

// 7.5, 7.6: all lists of four edges.
func TestClampOfAllEdges(t *testing.T) {
	for _, a := range edges {
		for _, b := range edges {
			for _, c := range edges {
				for _, d := range edges {
					l := []int{a, b, c, d}
					follows(t, l, times(l))
				}
			}
		}
	}
}

// some are readings of all sizes, at times past the end.
func (n *noise) some(count int) []int {
	l := make([]int, count)
	for i := range l {
		l[i] = int(n.word()) >> (1 + n.below(63))
		if n.below(60) == 0 {
			l[i] = edges[n.below(len(edges))]
		}
	}
	return l
}

// 7.6: times never fall, are never below 0 and never above MaxTime.
func TestTimesNeverFall(t *testing.T) {
	n := noise(76)
	for range 300 {
		l := n.some(100)
		follows(t, l, times(l))
		x, before := over(t, clock.NewSteps(l...)), 0
		for range l {
			now, e := x.Read()
			if e == api.ErrExpired {
				break
			}
			if now < before || now > api.MaxTime {
				t.Fatalf("%v: %d behind %d", l, now, before)
			}
			before = now
		}
	}
}

// 7.6: a reading that is at most the last time changes nothing.
func TestEarlierReadingsChangeNothing(t *testing.T) {
	n := noise(761)
	for range 300 {
		plain, more := over(t, clock.Func(nil)), over(t, clock.Func(nil))
		for _, r := range n.some(50) {
			want := told(plain.At(r))
			same(t, "the same reading", told(more.At(r)), want)
			for _, back := range []int{want.time, want.time - 1, 0, -1, math.MinInt, n.below(want.time + 1)} {
				same(t, "a reading back", told(more.At(back)), want)
				same(t, "Last behind it", told(more.Last()), want)
			}
		}
	}
}

// 7.6: readings that have the same greatest one at each point tell the same times.
func TestSameGreatestSameTimes(t *testing.T) {
	n := noise(762)
	for range 500 {
		l := n.some(60)
		other := slices.Clone(l)
		for i := 1; i < len(l); i++ {
			most := slices.Max(l[:i])
			if l[i] <= most {
				other[i] = most - n.below(1<<40)
			}
		}
		a, b := over(t, clock.NewSteps(l...)), over(t, clock.NewSteps(other...))
		for i := range l {
			if x, y := told(a.Read()), told(b.Read()); x != y {
				t.Fatalf("%v and %v: number %d: %v and %v", l, other, i+1, x, y)
			}
		}
	}
	for _, l := range [][]int{{5, 3, 1, 4}, {5, 1, 4, 3}, {5, 4, 3, 1}, {5, 5, 5, 5}} {
		follows(t, l, []answer{at(5), at(5), at(5), at(5)})
	}
}

// 7.5, 7.7: Read asks the clock just once, expired or not; no other call asks it.
func TestWhoAsksTheClock(t *testing.T) {
	a := &asked{Clock: clock.NewSteps(3, 1, 1<<62+1, 2)}
	x := over(t, a)
	x.At(2)
	x.Last()
	if a.times != 0 {
		t.Fatalf("asked %d times ahead of Read", a.times)
	}
	for i, want := range []answer{at(3), at(3), expired, expired, expired} {
		same(t, "Read", told(x.Read()), want)
		x.At(1)
		x.Last()
		if a.times != i+1 {
			t.Fatalf("asked %d times by %d of Read", a.times, i+1)
		}
	}
	x.At(math.MaxInt)
	x.Last()
	if a.times != 5 {
		t.Fatalf("asked %d times by 5 of Read", a.times)
	}
}

// panics is what Read panics with, nil if it answers.
func panics(x *clock.Clamp) (what any) {
	defer func() { what = recover() }()
	x.Read()
	return nil
}

// 7.7: a clock's panic is its own, and changes nothing; calls that don't ask it go on.
func TestClockThatPanics(t *testing.T) {
	x := over(t, bad{})
	same(t, "At", told(x.At(8)), at(8))
	if what := panics(x); what != "no reading" {
		t.Fatalf("Read panicked with %v", what)
	}
	same(t, "Last behind it", told(x.Last()), at(8))
	same(t, "At behind it", told(x.At(9)), at(9))
	same(t, "At the greatest int", told(x.At(math.MaxInt)), expired)
	same(t, "Last at the end", told(x.Last()), expired)
}

// 7.5, 7.7: a clock may hand readings in to the clamp that asks it; its own reading comes behind them.
func TestClockThatCallsItsClamp(t *testing.T) {
	var x *clock.Clamp
	inner, reading := 7, 4
	x = over(t, clock.Func(func() int {
		x.At(inner)
		return reading
	}))
	same(t, "a greater one inside", told(x.Read()), at(7))
	reading = 9
	same(t, "a lesser one inside", told(x.Read()), at(9))
	inner = 1<<62 + 1
	same(t, "the end inside", told(x.Read()), expired)
}
