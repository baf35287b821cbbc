package fluid_test

import (
	"math"
	"math/big"
	"slices"
	"sync"
	"testing"

	"millrace/api"
	"millrace/fluid"
	"millrace/gps"
	"millrace/rat"
)

// list asks for one of the three lists, which must go well.
func list(t *testing.T, ask func([]api.Item) ([]rat.Rat, api.Errno), l []api.Item) []rat.Rat {
	t.Helper()
	got, e := ask(l)
	if e != api.OK {
		t.Fatalf("%v: %v", l, e)
	}
	return got
}

// ticks are those at which something of a history may change, their neighbours, and some between.
func ticks(t *testing.T, n *noise, l []api.Item, finish []*big.Rat) []int {
	t.Helper()
	all := []int{0, 1, api.MaxTime}
	for i, p := range l {
		whole := new(big.Int).Quo(finish[i].Num(), finish[i].Denom())
		all = append(all, p.Came-1, p.Came, p.Came+1, int(whole.Int64()), int(whole.Int64())+1)
		all = append(all, p.Came+n.below(int(whole.Int64())-p.Came+1))
	}
	slices.Sort(all)
	all = slices.Compact(all)
	return slices.DeleteFunc(all, func(tick int) bool { return tick < 0 || tick > api.MaxTime })
}

// some are at most so many of a list.
func some(n *noise, l []int, most int) []int {
	for len(l) > most {
		at := n.below(len(l))
		l = slices.Delete(l, at, at+1)
	}
	return l
}

// 12.2, 12.3, 12.4, 12.5, against a fluid that is served by bytes.
func TestAgainstTheModel(t *testing.T) {
	histories(t, 121, func(n *noise, l []api.Item) {
		m := modelOf(l, nil)
		same(t, "Finish", list(t, fluid.Finish, l), m.finish)
		same(t, "Tags", list(t, fluid.Tags, l), m.tags)
		same(t, "Idle", list(t, fluid.Idle, l), m.idle)
		for _, tick := range some(n, ticks(t, n, l, m.finish), 25) {
			until := modelOf(l, count(tick))
			for _, flow := range append(pool, 77) {
				if got := text(served(t, l, flow, tick)); got != until.served(flow).String() {
					t.Fatalf("Served of %d at %d of %v: %s, want %s", flow, tick, l, got, until.served(flow))
				}
			}
		}
	})
}

// deepHistory is one in which V hangs on all that came ahead: each packet lengthens the denominators.
func deepHistory(n *noise, packets int) []api.Item {
	l := []api.Item{it(-1, 4093, 65536, 0)}
	came := 0
	for flow := range packets {
		came += 1 + n.below(20)
		l = append(l, it(flow, 1000+n.below(3097), 1+n.below(30), came))
	}
	return l
}

// 12.2, 12.3, 12.4: no denominator is too long here.
func TestDeep(t *testing.T) {
	n := noise(1221)
	l := deepHistory(&n, 190)
	m := modelOf(l, nil)
	if long := m.tags[len(l)-1].Denom().BitLen(); long <= api.MaxBits {
		t.Fatalf("only %d bits", long)
	}
	same(t, "Finish", list(t, fluid.Finish, l), m.finish)
	same(t, "Tags", list(t, fluid.Tags, l), m.tags)
	tick := l[len(l)-1].Came + 1
	until := modelOf(l, count(tick))
	for _, p := range l[len(l)-5:] {
		if got := text(served(t, l, p.Flow, tick)); got != until.served(p.Flow).String() {
			t.Fatalf("Served of %d at %d is another", p.Flow, tick)
		}
	}
}

// Long histories: of many flows at one time, of many busy times, and of a flow of many packets.
func TestLong(t *testing.T) {
	const many = 30000
	var crowd, idle, one, deep []api.Item
	n := noise(1222)
	for i := range many {
		crowd = append(crowd, it(i, 3, 6, 0))
		idle = append(idle, it(i, 3, 6, 6*i))
		one = append(one, it(1, 3, 6, i))
		deep = append(deep, it(i, 1+n.below(4096), 6, 3*i))
	}
	for i, f := range list(t, fluid.Finish, crowd) {
		if whole, ok := f.Int(); !ok || whole != 6*many {
			t.Fatalf("of a crowd number %d is done at %s", i, text(f))
		}
	}
	for _, l := range [][]api.Item{idle, one} {
		for i, f := range list(t, fluid.Finish, l) {
			if whole, ok := f.Int(); !ok || whole != 6*(i+1) {
				t.Fatalf("number %d is done at %s", i, text(f))
			}
		}
	}
	if got := list(t, fluid.Idle, idle); len(got) != many || text(got[many-1]) != "180000/1" {
		t.Fatalf("%d times", len(got))
	}
	// When nothing is left hangs on no tag.
	if got := list(t, fluid.Idle, deep); len(got) != 1 || text(got[0]) != "180000/1" {
		t.Fatalf("%d times", len(got))
	}
	if got := text(served(t, deep, 7, 180000)); got != "6/1" {
		t.Fatalf("Served at the end: %s", got)
	}
}

// 12.3, 12.4: chapter 11 tells the same, step by step.
func TestAsTheTrackerTells(t *testing.T) {
	histories(t, 123, func(n *noise, l []api.Item) {
		g := gps.New()
		tags := list(t, fluid.Tags, l)
		fed := map[int]int{}
		for i, p := range l {
			g.Advance(p.Came)
			_, tag, e := g.Admit(p.Flow, p.Weight, p.Size)
			if e != api.OK || text(tag) != text(tags[i]) {
				t.Fatalf("packet %d of %v: %s, the tracker says %s %v", i, l, text(tags[i]), text(tag), e)
			}
			fed[p.Flow] += p.Size
			flow := l[n.below(i+1)].Flow
			if want := less(count(fed[flow]), exact(t, g.Left(flow))); text(served(t, l, flow, p.Came)) != want.String() {
				t.Fatalf("Served of %d at %d of %v: %s, the tracker says %s", flow, p.Came, l, text(served(t, l, flow, p.Came)), want)
			}
		}
	})
}

// span is a time from one moment to another.
type span struct{ from, to *big.Rat }

// joined are the times in which something of the packets that are meant is there, as long as they can be.
func joined(l []api.Item, finish []*big.Rat, meant func(api.Item) bool) []span {
	var all []span
	for i, p := range l {
		if !meant(p) {
			continue
		}
		from, to := count(p.Came), finish[i]
		if k := len(all) - 1; k >= 0 && from.Cmp(all[k].to) <= 0 {
			if to.Cmp(all[k].to) > 0 {
				all[k].to = to
			}
			continue
		}
		all = append(all, span{from, to})
	}
	return all
}

// covered is how much of the time up to an end lies in the spans.
func covered(all []span, end *big.Rat) *big.Rat {
	sum := new(big.Rat)
	for _, s := range all {
		if s.to.Cmp(end) <= 0 {
			sum = plus(sum, less(s.to, s.from))
		} else if s.from.Cmp(end) < 0 {
			sum = plus(sum, less(end, s.from))
		}
	}
	return sum
}

// within is whether one span holds all of the time from one tick to another, apart whether none holds any of it.
func within(all []span, from, to int) (within, apart bool) {
	apart = true
	for _, s := range all {
		if s.from.Cmp(count(from)) <= 0 && s.to.Cmp(count(to)) >= 0 {
			return true, false
		}
		apart = apart && (s.to.Cmp(count(from)) <= 0 || s.from.Cmp(count(to)) >= 0)
	}
	return false, apart
}

func flowsOf(l []api.Item) []int {
	var flows []int
	for _, p := range l {
		flows = append(flows, p.Flow)
	}
	slices.Sort(flows)
	return slices.Compact(flows)
}

// 12.6: all that was served together is the time in which something was fed.
func TestServedInAll(t *testing.T) {
	histories(t, 1261, func(n *noise, l []api.Item) {
		finish := exactly(t, list(t, fluid.Finish, l))
		all := joined(l, finish, func(api.Item) bool { return true })
		for _, tick := range some(n, ticks(t, n, l, finish), 20) {
			sum := new(big.Rat)
			for _, flow := range flowsOf(l) {
				sum = plus(sum, exact(t, served(t, l, flow, tick)))
			}
			if want := covered(all, count(tick)); sum.Cmp(want) != 0 {
				t.Fatalf("%v: up to %d were served %s, fed was %s", l, tick, sum, want)
			}
		}
	})
}

// share is what a flow was served from one tick to another, if it was fed all the time.
type share struct {
	weight int
	bytes  *big.Rat
}

// shares are those of all flows that were fed from one tick to another; and whether no other one was fed between.
func shares(t *testing.T, l []api.Item, finish []*big.Rat, from, to int) (all []share, alone bool) {
	t.Helper()
	alone = true
	for _, flow := range flowsOf(l) {
		in, apart := within(joined(l, finish, func(p api.Item) bool { return p.Flow == flow }), from, to)
		if in {
			weight := l[slices.IndexFunc(l, func(p api.Item) bool { return p.Flow == flow })].Weight
			all = append(all, share{weight, less(exact(t, served(t, l, flow, to)), exact(t, served(t, l, flow, from)))})
		}
		alone = alone && (in || apart)
	}
	return all, alone
}

// 12.6: flows that are fed all the time are served by their weights; where no other one is fed, their weights' parts of the ticks.
func TestServedByWeights(t *testing.T) {
	pairs, parts := 0, 0
	histories(t, 1262, func(n *noise, l []api.Item) {
		finish := exactly(t, list(t, fluid.Finish, l))
		at := ticks(t, n, l, finish)
		for range 12 {
			k := n.below(len(at) - 1)
			from, to := at[k], at[min(k+1+n.below(4), len(at)-1)]
			all, alone := shares(t, l, finish, from, to)
			sum := 0
			for _, a := range all {
				sum += a.weight
				if part(a.bytes, all[0].weight, a.weight).Cmp(all[0].bytes) != 0 {
					t.Fatalf("%v: from %d to %d: %v", l, from, to, all)
				}
				pairs++
			}
			for _, a := range all {
				if !alone {
					break
				}
				if part(count(to-from), a.weight, sum).Cmp(a.bytes) != 0 {
					t.Fatalf("%v: from %d to %d of the weight %d of %d: %s", l, from, to, a.weight, sum, a.bytes)
				}
				parts++
			}
		}
	})
	if pairs < 500 || parts < 500 {
		t.Fatalf("only %d and %d", pairs, parts)
	}
}

// 12.7: in one busy time tags are in the order of finishes.
func TestTagsAreInTheOrderOfFinishes(t *testing.T) {
	equal, other := 0, 0
	histories(t, 127, func(_ *noise, l []api.Item) {
		finish, tags, idle := list(t, fluid.Finish, l), list(t, fluid.Tags, l), list(t, fluid.Idle, l)
		time := func(i int) int {
			return slices.IndexFunc(idle, func(end rat.Rat) bool { return finish[i].Cmp(end) <= 0 })
		}
		for i := range l {
			for k := range l {
				if time(i) != time(k) || i == k {
					continue
				}
				if tags[i].Cmp(tags[k]) != finish[i].Cmp(finish[k]) {
					t.Fatalf("%v: tags %s and %s, finishes %s and %s", l, text(tags[i]), text(tags[k]), text(finish[i]), text(finish[k]))
				}
				if tags[i].Cmp(tags[k]) == 0 {
					equal++
				} else {
					other++
				}
			}
		}
	})
	if equal < 20 || other < 1000 {
		t.Fatalf("only %d and %d", equal, other)
	}
}

// more is a history with a packet more, anywhere.
func more(n *noise, l []api.Item) (longer []api.Item, place int) {
	place = n.below(len(l) + 1)
	x := it(4444, 1+n.below(4096), 1+n.below(50), 0)
	if n.below(3) > 0 {
		like := l[n.below(len(l))]
		x.Flow, x.Weight = like.Flow, like.Weight
	}
	low, high := 0, api.MaxTime
	if place > 0 {
		low = l[place-1].Came
	}
	if place < len(l) {
		high = l[place].Came
	}
	x.Came = low + n.below(min(high-low, 40)+1)
	return slices.Insert(slices.Clone(l), place, x), place
}

// 12.8: a packet more makes no other one's finish earlier.
func TestOneMoreMakesNoneEarlier(t *testing.T) {
	later := 0
	histories(t, 1281, func(n *noise, l []api.Item) {
		finish := list(t, fluid.Finish, l)
		for range 6 {
			longer, place := more(n, l)
			behind := slices.Delete(list(t, fluid.Finish, longer), place, place+1)
			for i := range l {
				if behind[i].Cmp(finish[i]) < 0 {
					t.Fatalf("%v with %v at %d: %d is done at %s, not at %s", l, longer[place], place, i, text(behind[i]), text(finish[i]))
				}
				if behind[i].Cmp(finish[i]) > 0 {
					later++
				}
			}
		}
	})
	if later < 500 {
		t.Fatalf("only %d were later", later)
	}
}

// 12.8: a finish is at least Came and Size, at most the last Idle; and Idle rises.
func TestFinishBounds(t *testing.T) {
	histories(t, 1282, func(_ *noise, l []api.Item) {
		idle := exactly(t, list(t, fluid.Idle, l))
		for i, f := range exactly(t, list(t, fluid.Finish, l)) {
			if f.Cmp(count(l[i].Came+l[i].Size)) < 0 || f.Cmp(idle[len(idle)-1]) > 0 {
				t.Fatalf("%v: %d is done at %s, the last end is %s", l, i, f, idle[len(idle)-1])
			}
		}
		for i := 1; i < len(idle); i++ {
			if idle[i].Cmp(idle[i-1]) <= 0 {
				t.Fatalf("%v: %s behind %s", l, idle[i], idle[i-1])
			}
		}
	})
}

// 12.9: what is handed in is not changed, nor what lies behind it.
func TestHistoriesStayAsTheyAre(t *testing.T) {
	histories(t, 1291, func(n *noise, l []api.Item) {
		room := append(slices.Clone(l), it(9, 9, 9, 9), it(0, -1, -2, -3), it(5, 5, 5, 5))
		was := slices.Clone(room)
		handed := room[:len(l)]
		fluid.Check(handed)
		fluid.Finish(handed)
		fluid.Tags(handed)
		fluid.Idle(handed)
		fluid.Served(handed, l[0].Flow, l[n.below(len(l))].Came+2)
		if !slices.Equal(room, was) {
			t.Fatalf("%v became %v", was, room)
		}
	})
}

// 12.9: who writes into an answer, behind its end too, changes no other one; the same is asked again and told again.
func TestAnswersAreNewMemory(t *testing.T) {
	histories(t, 1292, func(_ *noise, l []api.Item) {
		for _, ask := range []func([]api.Item) ([]rat.Rat, api.Errno){fluid.Finish, fluid.Tags, fluid.Idle} {
			a, b := list(t, ask, l), list(t, ask, l)
			want := texts(b)
			x, _ := rat.Of(7, 9)
			for i := range a[:cap(a)] {
				a[:cap(a)][i] = x
			}
			if !slices.Equal(texts(b), want) || !slices.Equal(texts(list(t, ask, l)), want) {
				t.Fatalf("%v: %v became %v", l, want, texts(b))
			}
		}
	})
}

// 12.9: an answer hangs on the arguments alone, also where many ask at one time.
func TestManyAskAtOnce(t *testing.T) {
	n := noise(1293)
	l := n.history(shape{40, 9, 50, 20, 12, 0})
	want := append(texts(list(t, fluid.Finish, l)), texts(list(t, fluid.Tags, l))...)
	var all sync.WaitGroup
	for range 8 {
		all.Go(func() {
			finish, _ := fluid.Finish(l)
			tags, _ := fluid.Tags(l)
			if !slices.Equal(append(texts(finish), texts(tags)...), want) {
				t.Error("another answer")
			}
		})
	}
	all.Wait()
}

// 12.1, 12.9: whatever it is given, and just Check's error is answered.
func TestWhateverItIsGiven(t *testing.T) {
	words := []int{math.MinInt, math.MinInt + 1, -65537, -1, 0, 1, 2, 4095, 4096, 4097, 65535, 65536, 65537, api.MaxTime, api.MaxTime + 1, math.MaxInt - 1, math.MaxInt}
	n := noise(1294)
	word := func() int { return words[n.below(len(words))] }
	wrong := map[api.Errno]int{}
	for range 4000 {
		var l []api.Item
		came := 0
		for range 1 + n.below(6) {
			x := it(word(), 1+n.below(2), 1+n.below(65536), came)
			switch n.below(12) {
			case 0:
				x.Weight = word()
			case 1:
				x.Size = word()
			case 2:
				x.Came = word()
			}
			came = max(0, min(x.Came, api.MaxTime))
			l = append(l, x)
		}
		e, at := fluid.Check(l)
		wrong[e]++
		if e == api.OK {
			same(t, "Finish", list(t, fluid.Finish, l), modelOf(l, nil).finish)
			served(t, l, word(), came)
			continue
		}
		refused(t, l, e, at)
		if before, _ := fluid.Check(l[:at]); before != api.OK {
			t.Fatalf("%v: %v ahead of the place %d", l, before, at)
		}
	}
	for _, e := range []api.Errno{api.OK, api.ErrWeight, api.ErrSize, api.ErrExpired, api.ErrArg} {
		if wrong[e] < 50 {
			t.Errorf("%v only %d times", e, wrong[e])
		}
	}
}
