package gps_test

import (
	"math"
	"math/big"
	"slices"
	"testing"

	"millrace/api"
	"millrace/gps"
)

// pool are the flows of the runs.
var pool = []int{math.MinInt, -3, 0, 1, 2, 3, 4, 5, math.MaxInt}

// act is one call: what is admitted, or where it goes on to, if weight is 0.
type act struct{ flow, weight, size, tick int }

// acts are a run of calls. A flow has a weight of its own for some time, so that most are admitted.
func acts(n *noise, many, widest, longest, farthest int) []act {
	weights := make([]int, len(pool))
	for i := range weights {
		weights[i] = 1 + n.below(widest)
	}
	var l []act
	tick := n.below(4)
	for range many {
		i := n.below(len(pool))
		switch n.below(8) {
		case 0, 1, 2:
			tick += n.upTo(farthest)
			l = append(l, act{tick: tick})
		case 3:
			if n.below(3) == 0 {
				weights[i] = 1 + n.below(widest)
			}
			l = append(l, act{tick: tick - n.below(20)})
		default:
			l = append(l, act{flow: pool[i], weight: weights[i], size: n.upTo(longest)})
		}
	}
	return l
}

func (b both) do(a act) {
	b.t.Helper()
	if a.weight == 0 {
		b.advance(a.tick)
	} else {
		b.tag(a.flow, a.weight, a.size)
		b.admit(a.flow, a.weight, a.size)
	}
}

// runs goes through runs of several sorts, each with a Tracker and a model of it.
func runs(t *testing.T, seed uint64, each func(n *noise, b both, l []act)) {
	t.Helper()
	n := noise(seed)
	for _, x := range []struct{ rounds, many, widest, longest, farthest int }{
		{60, 60, 3, 6, 8}, {60, 60, 10, 30, 40}, {20, 80, 4096, 65536, 100000}, {20, 80, 4096, 20, 20}, {30, 60, 6, 100, 1 << 60 / 100}, {20, 80, 1, 40, 90},
	} {
		for range x.rounds {
			each(&n, begin(t), acts(&n, x.many, x.widest, x.longest, x.farthest))
		}
	}
}

// 11.2 to 11.5: all that is told, held against a fluid that goes by bytes.
func TestAgainstBytes(t *testing.T) {
	runs(t, 112, func(_ *noise, b both, l []act) {
		for _, a := range l {
			b.do(a)
			b.same(pool...)
		}
	})
}

// lefts is the sum of Left.
func lefts(t *testing.T, g *gps.Tracker) *big.Rat {
	t.Helper()
	sum := new(big.Rat)
	for _, flow := range g.Flows() {
		sum = plus(sum, exact(t, g.Left(flow)))
	}
	return sum
}

// 11.6: between two Advances the sum of Left falls by just the ticks that went by, or to 0.
func TestLeftFallsByTicks(t *testing.T) {
	runs(t, 116, func(_ *noise, b both, l []act) {
		admitted, busy := new(big.Rat), new(big.Rat)
		for _, a := range l {
			had, time := lefts(t, b.g), b.g.Time()
			if a.weight > 0 {
				if _, _, e := b.g.Admit(a.flow, a.weight, a.size); e == api.OK {
					admitted = plus(admitted, count(a.size))
					had = plus(had, count(a.size))
				}
			} else {
				b.g.Advance(a.tick)
			}
			served := lesser(had, count(b.g.Time()-time))
			busy = plus(busy, served)
			if left := lefts(t, b.g); left.Cmp(less(had, served)) != 0 || plus(left, busy).Cmp(admitted) != 0 {
				t.Fatalf("%v: left %s of %s, served %s in all of %s", a, left, had, busy, admitted)
			}
		}
	})
}

// 11.7: V never falls but to 0.
func TestVirtualRises(t *testing.T) {
	runs(t, 117, func(_ *noise, b both, l []act) {
		for _, a := range l {
			was, empty := exact(t, b.g.Virtual()), b.g.Weight() == 0
			b.do(a)
			now := exact(t, b.g.Virtual())
			if now.Cmp(was) < 0 && (now.Sign() != 0 || a.weight > 0) {
				t.Fatalf("%v: V from %s to %s", a, was, now)
			}
			if (empty || b.g.Weight() == 0) && a.weight == 0 && now.Sign() != 0 {
				t.Fatalf("%v: V is %s without a flow", a, now)
			}
		}
	})
}

// 11.7: flows that stay are served as their weights are; where the flows are the same, each gets its weight's part of every tick.
func TestServedByWeights(t *testing.T) {
	seen := 0
	runs(t, 1171, func(_ *noise, b both, l []act) {
		for _, a := range l {
			if a.weight > 0 || a.tick <= b.g.Time() {
				b.do(a)
				continue
			}
			was, sum, time := b.g.Flows(), b.g.Weight(), b.g.Time()
			had := map[int]*big.Rat{}
			for _, flow := range was {
				had[flow] = exact(t, b.g.Left(flow))
			}
			virtual := exact(t, b.g.Virtual())
			b.do(a)
			grown := less(exact(t, b.g.Virtual()), virtual)
			for _, flow := range b.g.Flows() {
				served := less(had[flow], exact(t, b.g.Left(flow)))
				weight := b.m.pipes[flow].weight
				if served.Cmp(part(grown, weight, 1)) != 0 {
					t.Fatalf("flow %d of weight %d served %s, V grown by %s", flow, weight, served, grown)
				}
				if slices.Equal(was, b.g.Flows()) && served.Cmp(part(count(b.g.Time()-time), weight, sum)) != 0 {
					t.Fatalf("flow %d of weight %d of %d served %s in %d ticks", flow, weight, sum, served, b.g.Time()-time)
				}
				seen++
			}
		}
	})
	if seen < 1000 {
		t.Fatalf("only %d stretches", seen)
	}
}

// alike asks two Trackers to tell the same.
func alike(t *testing.T, what string, a, b *gps.Tracker) {
	t.Helper()
	if a.Time() != b.Time() || a.Virtual().Cmp(b.Virtual()) != 0 || a.Weight() != b.Weight() || !slices.Equal(a.Flows(), b.Flows()) {
		t.Fatalf("%s: %d %s %d %v and %d %s %d %v", what, a.Time(), text(a.Virtual()), a.Weight(), a.Flows(), b.Time(), text(b.Virtual()), b.Weight(), b.Flows())
	}
	for _, flow := range pool {
		if a.Has(flow) != b.Has(flow) || text(a.Left(flow)) != text(b.Left(flow)) {
			t.Fatalf("%s: %s and %s are left of %d", what, text(a.Left(flow)), text(b.Left(flow)), flow)
		}
	}
}

// 11.8: Advance(t) is Advance(s) and then Advance(t).
func TestStepsMakeNothing(t *testing.T) {
	runs(t, 118, func(n *noise, b both, l []act) {
		stepped := gps.New()
		for _, a := range l {
			if a.weight > 0 {
				b.g.Admit(a.flow, a.weight, a.size)
				stepped.Admit(a.flow, a.weight, a.size)
				continue
			}
			far := a.tick - stepped.Time()
			for s := 0; far > 0 && s < far && s < 60; s += 1 + n.below(3) {
				stepped.Advance(stepped.Time() + 1 + n.below(max(1, min(far/2, 9))))
				if stepped.Time() >= a.tick {
					break
				}
			}
			stepped.Advance(a.tick)
			b.g.Advance(max(a.tick, stepped.Time()))
			alike(t, "in steps", b.g, stepped)
		}
	})
}

// 11.8: what is refused, and what only asks, changes nothing.
func TestRefusalsChangeNothing(t *testing.T) {
	weights := []int{math.MinInt, -1, 0, 4097, math.MaxInt}
	sizes := []int{math.MinInt, -1, 0, 65537, math.MaxInt}
	runs(t, 1181, func(n *noise, b both, l []act) {
		quiet := gps.New()
		for _, a := range l {
			flow, weight := pool[n.below(len(pool))], 1+n.below(4096)
			b.g.Admit(flow, weights[n.below(len(weights))], 1)
			b.g.Admit(flow, weight, sizes[n.below(len(sizes))])
			b.g.Tag(flow, weight, 1+n.below(65536))
			if quiet.Has(flow) && b.m.pipes[flow].weight != weight {
				b.g.Admit(flow, weight, 1)
			}
			b.g.Advance(b.g.Time() - n.below(3))
			b.g.Left(flow)
			alike(t, "asked ahead", b.g, quiet)
			b.do(a)
			if a.weight > 0 {
				quiet.Admit(a.flow, a.weight, a.size)
			} else {
				quiet.Advance(a.tick)
			}
			alike(t, "then", b.g, quiet)
		}
	})
}

// 11.9: a packet's last byte is served at the moment at which V reaches its tag. The model serves by bytes, and its tags are the Tracker's.
func TestDoneAtTheTag(t *testing.T) {
	runs(t, 119, func(_ *noise, b both, l []act) {
		for _, a := range l {
			b.do(a)
		}
		b.advance(b.m.time + 1<<24)
		for _, p := range b.m.all {
			if p.done == nil || p.reached.Cmp(p.tag) != 0 {
				t.Fatalf("a packet of the tag %s is done at V %s", p.tag, p.reached)
			}
		}
	})
}

// 11.9: the same at whole ticks: V is below a packet's tag at every tick ahead of that moment, and not below it at any from then on, till the fluid has nothing.
func TestTagBelowVirtualOnlyBehind(t *testing.T) {
	n := noise(1191)
	for range 60 {
		b := begin(t)
		var flows []int
		for range 12 {
			flow := n.below(4)
			if b.admit(flow, 1+flow*flow, 1+n.below(12)) == api.OK {
				flows = append(flows, flow)
			}
			b.advance(b.m.time + n.below(4))
			if b.m.weight() == 0 {
				b, flows = begin(t), nil
			}
		}
		was := b.m.time
		virtuals := map[int]*big.Rat{}
		for b.g.Weight() > 0 {
			virtuals[b.g.Time()] = exact(t, b.g.Virtual())
			b.advance(b.g.Time() + 1)
		}
		for i, p := range b.m.all {
			for tick := was; virtuals[tick] != nil; tick++ {
				if (virtuals[tick].Cmp(p.tag) < 0) != (count(tick).Cmp(p.done) < 0) {
					t.Fatalf("flow %d: done at %s, V at %d is %s, its tag %s", flows[i], p.done, tick, virtuals[tick], p.tag)
				}
			}
		}
	}
}

// 11.10: whatever it is given.
func TestWhateverItIsGiven(t *testing.T) {
	words := []int{math.MinInt, math.MinInt + 1, -65537, -1, 0, 1, 2, 4095, 4096, 4097, 65535, 65536, 65537, 1 << 62, math.MaxInt - 1, math.MaxInt}
	n := noise(1110)
	for range 300 {
		b := begin(t)
		for range 60 {
			flow, weight, size := words[n.below(len(words))], words[n.below(len(words))], words[n.below(len(words))]
			b.tag(flow, weight, size)
			b.admit(flow, weight, size)
			if n.below(4) == 0 {
				b.advance(words[n.below(10)])
			}
			if n.below(60) == 0 {
				b.advance(words[n.below(len(words))])
			}
			b.same(words...)
		}
	}
}

// 11.10: what was told stays as it was, whatever is done then.
func TestToldValuesStay(t *testing.T) {
	runs(t, 11101, func(_ *noise, b both, l []act) {
		for _, a := range l {
			virtual, left, flows := b.g.Virtual(), b.g.Left(a.flow), b.g.Flows()
			texts, copied := text(virtual)+" "+text(left), slices.Clone(flows)
			start, tag, _ := b.g.Tag(a.flow, max(a.weight, 1), max(a.size, 1))
			tags := text(start) + " " + text(tag)
			b.do(a)
			b.advance(b.m.time + 1)
			if text(virtual)+" "+text(left) != texts || text(start)+" "+text(tag) != tags || !slices.Equal(flows, copied) {
				t.Fatalf("%v: %s %s became %s %s", a, texts, tags, text(virtual)+" "+text(left), text(start)+" "+text(tag))
			}
		}
	})
}
