package fluid_test

import (
	"fmt"
	"math"
	"slices"
	"testing"

	"millrace/api"
	"millrace/fluid"
	"millrace/rat"
)

// it is a packet of a history.
func it(flow, weight, size, came int) api.Item {
	return api.Item{Flow: flow, Weight: weight, Size: size, Came: came}
}

// tells asks the three lists of a history to be these.
func tells(t *testing.T, l []api.Item, finish, tags, idle []string) {
	t.Helper()
	for _, x := range []struct {
		what string
		ask  func([]api.Item) ([]rat.Rat, api.Errno)
		want []string
	}{{"Finish", fluid.Finish, finish}, {"Tags", fluid.Tags, tags}, {"Idle", fluid.Idle, idle}} {
		got, e := x.ask(l)
		if e != api.OK || !slices.Equal(texts(got), x.want) {
			t.Errorf("%s of %v: %v %v, want %v", x.what, l, texts(got), e, x.want)
		}
	}
}

// served asks for what was served of a flow up to a tick.
func served(t *testing.T, l []api.Item, flow, tick int) rat.Rat {
	t.Helper()
	r, e := fluid.Served(l, flow, tick)
	if e != api.OK {
		t.Fatalf("Served(%v, %d, %d): %v", l, flow, tick, e)
	}
	return r
}

// The chapter's examples: 12.2, 12.3, 12.5.
func TestExamples(t *testing.T) {
	tells(t, []api.Item{it(1, 1, 10, 0)}, []string{"10/1"}, []string{"10/1"}, []string{"10/1"})
	tells(t, []api.Item{it(1, 1, 10, 0), it(2, 1, 10, 0)}, []string{"20/1", "20/1"}, []string{"10/1", "10/1"}, []string{"20/1"})
	tells(t, []api.Item{it(1, 1, 10, 0), it(2, 3, 10, 0)}, []string{"20/1", "40/3"}, []string{"10/1", "10/3"}, []string{"20/1"})
	tells(t, []api.Item{it(1, 1, 10, 0), it(2, 1, 4, 2)}, []string{"14/1", "10/1"}, []string{"10/1", "6/1"}, []string{"14/1"})
	tells(t, []api.Item{it(1, 1, 4, 0), it(1, 1, 4, 4)}, []string{"4/1", "8/1"}, []string{"4/1", "4/1"}, []string{"4/1", "8/1"})
	if e, at := fluid.Check([]api.Item{it(1, 1, 4, 0), it(1, 2, 4, 1)}); e != api.ErrWeight || at != 1 {
		t.Errorf("another weight: %v at %d", e, at)
	}
	if got := text(served(t, []api.Item{it(1, 1, 10, 0), it(2, 3, 10, 0)}, 2, 4)); got != "3/1" {
		t.Errorf("Served: %s", got)
	}
}

// A history of nothing, nil or empty.
func TestNothing(t *testing.T) {
	for _, l := range [][]api.Item{nil, {}, make([]api.Item, 0, 5)} {
		tells(t, l, []string{}, []string{}, []string{})
		if e, at := fluid.Check(l); e != api.OK || at != 0 {
			t.Errorf("Check: %v at %d", e, at)
		}
		for _, tick := range []int{0, 1, api.MaxTime} {
			if got := text(served(t, l, 0, tick)); got != "0/1" {
				t.Errorf("Served at %d: %s", tick, got)
			}
		}
	}
}

// good is a history of which each packet may be replaced by a wrong one.
func good() []api.Item {
	return []api.Item{it(1, 1, 65536, 0), it(2, 4096, 1, 0), it(1, 1, 1, 7), it(-3, 5, 9, 7), it(2, 4096, 65536, api.MaxTime), it(1, 1, 1, api.MaxTime)}
}

// refused asks every call to answer an error, Check at a place.
func refused(t *testing.T, l []api.Item, want api.Errno, place int) {
	t.Helper()
	if e, at := fluid.Check(l); e != want || at != place {
		t.Errorf("Check of %v: %v at %d, want %v at %d", l, e, at, want, place)
	}
	for i, ask := range []func([]api.Item) ([]rat.Rat, api.Errno){fluid.Finish, fluid.Tags, fluid.Idle} {
		if got, e := ask(l); e != want || len(got) != 0 {
			t.Errorf("list %d of %v: %v %v, want %v", i, l, texts(got), e, want)
		}
	}
	// Check's error comes ahead of what is wrong with the tick.
	for _, tick := range []int{math.MinInt, -1, 0, 5, api.MaxTime, api.MaxTime + 1, math.MaxInt} {
		if got, e := fluid.Served(l, 1, tick); e != want || text(got) != "0/1" {
			t.Errorf("Served of %v at %d: %s %v, want %v", l, tick, text(got), e, want)
		}
	}
}

// 12.1: the bounds of each thing, at every place.
func TestCheckBounds(t *testing.T) {
	if e, at := fluid.Check(good()); e != api.OK || at != 0 {
		t.Fatalf("a good history: %v at %d", e, at)
	}
	for place := range good() {
		for _, weight := range []int{math.MinInt, -1, 0, 4097, math.MaxInt} {
			l := good()
			l[place].Weight = weight
			refused(t, l, api.ErrWeight, place)
		}
		for _, size := range []int{math.MinInt, -1, 0, 65537, math.MaxInt} {
			l := good()
			l[place].Size = size
			refused(t, l, api.ErrSize, place)
		}
		for _, came := range []int{api.MaxTime + 1, math.MaxInt} {
			l := good()
			l[place].Came = came
			refused(t, l, api.ErrExpired, place)
		}
		for _, came := range []int{math.MinInt, -1} {
			l := good()
			l[place].Came = came
			refused(t, l, api.ErrArg, place)
		}
	}
}

// 12.1: before the one ahead of it, by one tick.
func TestCheckTimeGoesBack(t *testing.T) {
	l := good()
	l[3].Came = 6
	refused(t, l, api.ErrArg, 3)
	l = good()
	l[5].Came--
	refused(t, l, api.ErrArg, 5)
	l = good()
	l[2].Came = 8
	refused(t, l, api.ErrArg, 3)
}

// 12.1: a flow keeps its weight, also behind a time in which the fluid had nothing; other flows have theirs.
func TestCheckWeightOfAFlow(t *testing.T) {
	refused(t, []api.Item{it(0, 2, 1, 0), it(5, 3, 1, 0), it(0, 2, 1, 100), it(5, 2, 1, 1000), it(0, 0, 1, 1000)}, api.ErrWeight, 3)
	refused(t, []api.Item{it(0, 4096, 1, 0), it(0, 4095, 1, 0)}, api.ErrWeight, 1)
	refused(t, []api.Item{it(math.MinInt, 1, 1, 0), it(math.MaxInt, 2, 1, 0), it(math.MinInt, 2, 1, 0)}, api.ErrWeight, 2)
	var l []api.Item
	for flow := range 4096 {
		l = append(l, it(flow-2000, flow+1, 1, 0))
	}
	if e, at := fluid.Check(l); e != api.OK || at != 0 {
		t.Errorf("4,096 flows: %v at %d", e, at)
	}
	refused(t, append(l, it(-2000, 2, 1, 0)), api.ErrWeight, 4096)
}

// 12.1: of one packet the weight, the size, the end of time, the order, in this order.
func TestCheckOrderInOnePacket(t *testing.T) {
	for _, weight := range []int{3, 4, 0, 4097} {
		for _, size := range []int{1, 0, 65537} {
			for _, came := range []int{10, api.MaxTime + 1, -1, 9} {
				want := api.OK
				switch {
				case weight != 3:
					want = api.ErrWeight
				case size != 1:
					want = api.ErrSize
				case came > 10:
					want = api.ErrExpired
				case came < 10:
					want = api.ErrArg
				}
				if want != api.OK {
					refused(t, []api.Item{it(1, 3, 5, 10), it(1, weight, size, came), it(2, 1, 1, 10)}, want, 1)
				}
			}
		}
	}
}

// 12.1: of several packets the leftmost, whatever is wrong with it.
func TestCheckGoesFromTheLeft(t *testing.T) {
	wrongs := []struct {
		item api.Item
		e    api.Errno
	}{{it(1, 0, 1, 20), api.ErrWeight}, {it(1, 3, 0, 20), api.ErrSize}, {it(1, 3, 1, api.MaxTime+1), api.ErrExpired}, {it(1, 3, 1, 9), api.ErrArg}}
	for _, a := range wrongs {
		for _, b := range wrongs {
			refused(t, []api.Item{it(1, 3, 5, 10), a.item, b.item}, a.e, 1)
			refused(t, []api.Item{it(1, 3, 5, 10), it(2, 1, 1, 10), b.item, it(2, 1, 1, 20), a.item}, b.e, 2)
		}
	}
}

// 12.2, 12.3: the paces change as flows are done between ticks.
func TestPaceChangesBetweenTicks(t *testing.T) {
	// By weights 2, 3 and 5: the flow 3 is done at V 1/5, at the tick 2; the flow 2 at V 2/3, at 2 + 5 * 7/15 = 13/3; the flow 1 at V 4, at the tick 11.
	tells(t, []api.Item{it(1, 2, 8, 0), it(2, 3, 2, 0), it(3, 5, 1, 0)}, []string{"11/1", "13/3", "2/1"}, []string{"4/1", "2/3", "1/5"}, []string{"11/1"})
	// The flow 4 comes at the tick 5, at V 1: with the weight 2 it is done at V 2, at the tick 9.
	tells(t, []api.Item{it(1, 2, 8, 0), it(2, 3, 2, 0), it(3, 5, 1, 0), it(4, 2, 2, 5)}, []string{"13/1", "13/3", "2/1", "9/1"}, []string{"4/1", "2/3", "1/5", "2/1"}, []string{"13/1"})
}

// 12.2, 12.3: packets of one flow are served in their order, one behind the other.
func TestPacketsOfOneFlow(t *testing.T) {
	tells(t, []api.Item{it(1, 2, 4, 0), it(1, 2, 6, 0), it(2, 1, 3, 0), it(1, 2, 2, 1)}, []string{"6/1", "13/1", "9/1", "15/1"}, []string{"2/1", "5/1", "3/1", "6/1"}, []string{"15/1"})
}

// 12.3: a flow that was done while others are fed begins at V, not at its old tag; one that is fed still, at its last tag.
func TestFlowThatCameBack(t *testing.T) {
	l := []api.Item{it(1, 1, 100, 0), it(2, 1, 5, 0), it(2, 1, 5, 10), it(2, 1, 5, 12), it(2, 1, 5, 50)}
	// It is done at the tick 10, at V 5: the next one begins there, at V 5 too; the one behind that at 10; at 30, at V 15, it is done again, and V goes on by 1 a tick to 35 at the tick 50.
	tells(t, l, []string{"120/1", "10/1", "20/1", "30/1", "60/1"}, []string{"100/1", "5/1", "10/1", "15/1", "40/1"}, []string{"120/1"})
}

// 12.5: a packet that comes at the very moment at which nothing is left begins a new time; one that comes a tick earlier does not.
func TestIdleAtTheVeryMoment(t *testing.T) {
	tells(t, []api.Item{it(1, 2, 3, 0), it(2, 1, 3, 0), it(1, 2, 3, 6)}, []string{"9/2", "6/1", "9/1"}, []string{"3/2", "3/1", "3/2"}, []string{"6/1", "9/1"})
	tells(t, []api.Item{it(1, 2, 3, 0), it(2, 1, 3, 0), it(1, 2, 3, 5)}, []string{"9/2", "8/1", "9/1"}, []string{"3/2", "3/1", "7/2"}, []string{"9/1"})
	tells(t, []api.Item{it(1, 2, 3, 0), it(2, 1, 3, 0), it(1, 2, 3, 7)}, []string{"9/2", "6/1", "10/1"}, []string{"3/2", "3/1", "3/2"}, []string{"6/1", "10/1"})
	tells(t, []api.Item{it(1, 1, 1, 5), it(1, 1, 1, 6), it(1, 1, 2, 7), it(1, 1, 1, 8), it(1, 1, 1, 20)}, []string{"6/1", "7/1", "9/1", "10/1", "21/1"}, []string{"1/1", "1/1", "2/1", "3/1", "1/1"}, []string{"6/1", "7/1", "10/1", "21/1"})
}

// Finishes may lie behind MaxTime.
func TestAtTheEndOfTime(t *testing.T) {
	last := fmt.Sprint(api.MaxTime + 2*65536)
	l := []api.Item{it(1, 1, 65536, api.MaxTime), it(2, 1, 65536, api.MaxTime)}
	tells(t, l, []string{last + "/1", last + "/1"}, []string{"65536/1", "65536/1"}, []string{last + "/1"})
	if got := text(served(t, l, 1, api.MaxTime)); got != "0/1" {
		t.Errorf("Served: %s", got)
	}
	l[0].Came--
	if got := text(served(t, l, 1, api.MaxTime)); got != "1/1" {
		t.Errorf("Served a tick later: %s", got)
	}
}

// 12.4: the bounds of the tick, and a flow that the history has not.
func TestServedBounds(t *testing.T) {
	l := []api.Item{it(1, 1, 10, 0), it(2, 3, 10, 0)}
	for _, flow := range []int{1, 2, 3} {
		for _, tick := range []int{math.MinInt, -2, -1} {
			if got, e := fluid.Served(l, flow, tick); e != api.ErrArg || text(got) != "0/1" {
				t.Errorf("at %d: %s %v", tick, text(got), e)
			}
			if _, e := fluid.Served(nil, flow, tick); e != api.ErrArg {
				t.Errorf("of nothing, at %d: %v", tick, e)
			}
		}
		for _, tick := range []int{api.MaxTime + 1, math.MaxInt} {
			if got, e := fluid.Served(l, flow, tick); e != api.ErrExpired || text(got) != "0/1" {
				t.Errorf("at %d: %s %v", tick, text(got), e)
			}
			if _, e := fluid.Served(nil, flow, tick); e != api.ErrExpired {
				t.Errorf("of nothing, at %d: %v", tick, e)
			}
		}
	}
	for _, flow := range []int{math.MinInt, -1, 0, 3, math.MaxInt} {
		for _, tick := range []int{0, 1, 13, 20, api.MaxTime} {
			if got := text(served(t, l, flow, tick)); got != "0/1" {
				t.Errorf("flow %d at %d: %s", flow, tick, got)
			}
		}
	}
}

// 12.4: tick by tick through two busy times, the second one with a flow that the first had not.
func TestServedTickByTick(t *testing.T) {
	l := []api.Item{it(1, 1, 3, 1), it(2, 2, 1, 2), it(2, 2, 1, 2), it(1, 1, 1, 8), it(3, 3, 3, 8)}
	for flow, want := range map[int][]string{
		1: {"0/1", "0/1", "1/1", "4/3", "5/3", "2/1", "3/1", "3/1", "3/1", "13/4", "7/2", "15/4", "4/1", "4/1"},
		2: {"0/1", "0/1", "0/1", "2/3", "4/3", "2/1", "2/1", "2/1", "2/1", "2/1", "2/1", "2/1", "2/1", "2/1"},
		3: {"0/1", "0/1", "0/1", "0/1", "0/1", "0/1", "0/1", "0/1", "0/1", "3/4", "3/2", "9/4", "3/1", "3/1"},
	} {
		for tick, w := range want {
			if got := text(served(t, l, flow, tick)); got != w {
				t.Errorf("flow %d at %d: %s, want %s", flow, tick, got, w)
			}
		}
	}
}
