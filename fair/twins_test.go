package fair_test

import (
	"math"
	"runtime"
	"slices"
	"testing"

	"millrace/api"
	"millrace/clock"
	"millrace/fair"
)

// What a call is beside those of package api.
const (
	snapshot = api.CTotal + 1 + iota
	due
	wait
)

// call is one of a scheduler, at a reading.
type call struct {
	what, reading int
	params        api.Params
	flow          api.Handle
	id, size      int
	open          int // how many flows are open ahead of it
}

// on makes the call and tells what was answered.
func (c call) on(f *fair.Fair, k *clock.Fake) string {
	k.Set(c.reading)
	switch c.what {
	case api.COpen:
		h, e := f.Open(c.params)
		return all(h, e)
	case api.CClose:
		l, books, e := f.Close(c.flow)
		return all(l, books, e)
	case api.CSend:
		seq, l, e := f.Enqueue(c.flow, c.id, c.size)
		return all(seq, l, e)
	case api.CPoll:
		l, e := f.Poll()
		return all(l, e)
	case api.CStats:
		books, e := f.Stats(c.flow)
		return all(books, e)
	case api.CTotal:
		books, e := f.Total()
		return all(books, e)
	case snapshot:
		s, e := f.Snapshot()
		return all(s, e)
	case due:
		at, ok, e := f.Due()
		return all(at, ok, e)
	}
	at, e := f.Wait(c.flow, c.size)
	return all(at, e)
}

// script is a list of calls that a scheduler of this set-up may well be asked, with readings that go back at times.
func script(t *testing.T, n *noise, c api.Conf, steps int) []call {
	t.Helper()
	f, k := begun(t, c)
	var l []call
	open := []api.Handle{{Slot: 7, Gen: 7}}
	now, pace := 0, 1+n.below(c.Most)
	for range steps {
		x := call{id: n.below(99), size: 1 + n.below(c.Most), flow: one(n, open), params: rich(anyParams(n, c)), open: len(open) - 1}
		x.what = one(n, []int{api.COpen, api.CClose, api.CStats, api.CTotal, snapshot, due, wait, api.CPoll, api.CPoll, api.CPoll})
		if n.below(2) == 0 {
			x.what = api.CSend
		}
		if x.what == api.CClose && n.below(2) == 0 {
			x.what = api.COpen
		}
		now += n.below(2) * n.below(pace)
		x.reading = now
		if n.below(6) == 0 {
			x.reading = one(n, []int{math.MinInt, -1, 0, now - 1, now / 2, now - n.below(now+1)})
		}
		x.on(f, k)
		l = append(l, x)
		s := looks(t, f)
		open = open[:1]
		for _, x := range s.Flows {
			open = append(open, x.Handle)
		}
	}
	return append(l, call{what: api.CPoll, reading: now + 2*c.Room}, call{what: snapshot})
}

// twins hand two schedulers the same calls, the other one more between, which may not change an answer. Whatever stands between is at readings between.
func twins(t *testing.T, seed uint64, between func(n *noise, c api.Conf, next call) []call) {
	t.Helper()
	n := noise(seed)
	for _, kind := range kinds {
		for range 12 {
			c := anyConf(&n, kind)
			f, k := begun(t, c)
			g, j := begun(t, c)
			now := 0
			for _, x := range script(t, &n, c, 250) {
				next := max(now, x.reading)
				for _, y := range between(&n, c, x) {
					y.reading = now + n.below(next-now+1)
					now = max(now, y.reading)
					if n.below(4) == 0 {
						y.reading = one(&n, []int{math.MinInt, -1, 0, now - 1})
					}
					y.on(g, j)
				}
				now = next
				same(t, all(c, x), x.on(g, j), x.on(f, k))
			}
		}
	}
}

// W9: what is refused changes no later answer.
func TestQuiet(t *testing.T) {
	twins(t, 1909, func(n *noise, c api.Conf, next call) []call {
		var l []call
		bad := one(n, []api.Handle{{}, {Slot: 0, Gen: 0}, {Slot: 9, Gen: 1}, {Slot: -1, Gen: 1}, {Slot: 1, Gen: 1 << 30}})
		for range n.below(4) {
			x := call{what: api.COpen, flow: bad, size: 1 + n.below(c.Most), params: rich(anyParams(n, c))}
			switch n.below(6) {
			case 0:
				x.params.Weight = one(n, []int{0, -1, c.Cap + 1})
			case 1:
				x.params.Burst = 0
			case 2:
				x.params.Weight = c.Cap
				if next.open == 0 {
					x.params.Per = 0
				}
			case 3:
				x.what = api.CSend
			case 4:
				x.what, x.flow, x.size = api.CSend, next.flow, one(n, []int{0, -1, c.Most + 1, math.MaxInt})
			case 5:
				x.what = one(n, []int{api.CClose, api.CStats, wait})
			}
			l = append(l, x)
		}
		return l
	})
}

// W9: readings that go back are as if they were the greatest ahead of them.
func TestReadingsBack(t *testing.T) {
	n := noise(19091)
	for _, kind := range kinds {
		for range 12 {
			c := anyConf(&n, kind)
			f, k := begun(t, c)
			g, j := begun(t, c)
			now := 0
			for _, x := range script(t, &n, c, 250) {
				now = max(now, x.reading)
				y := x
				if y.reading = now; x.reading < now && n.below(2) == 0 {
					y.reading = now - n.below(1<<40)
				}
				same(t, all(c, x, y), y.on(g, j), x.on(f, k))
			}
		}
	}
}

// 19.12, 19.13: to ask changes nothing, whenever it is.
func TestAskingChangesNothing(t *testing.T) {
	twins(t, 1912, func(n *noise, c api.Conf, next call) []call {
		var l []call
		for range n.below(6) {
			l = append(l, call{what: one(n, []int{api.CStats, api.CTotal, snapshot, due, wait}), flow: next.flow, size: 1 + n.below(c.Most)})
		}
		return l
	})
}

// 19.13: Polls too may be cut: what they tell together is the same, if nothing comes at their ticks behind them.
func TestCutsOfPolls(t *testing.T) {
	n := noise(1913)
	for _, kind := range kinds {
		for range 10 {
			c := anyConf(&n, kind)
			x, y := watchOf(t, &n, c), watchOf(t, &n, c)
			p := rich(anyParams(&n, c))
			h := opens(t, x.f, p)
			opens(t, y.f, p)
			for range 60 {
				x.ticks(1 + n.below(2*c.Most))
				for y.now < x.now-1 {
					y.ticks(1 + n.below(x.now-1-y.now))
					y.asks()
				}
				y.ticks(x.now - y.now)
				for range n.below(4) {
					size := 1 + n.below(c.Most)
					seq, gone, e := x.f.Enqueue(h, 0, size)
					want, wantGone, wantE := y.f.Enqueue(h, 0, size)
					same(t, "Enqueue", all(seq, gone, e), all(want, wantGone, wantE))
				}
				x.asks()
				y.asks()
				same(t, "what left", all(x.left), all(y.left))
			}
		}
	}
}

// 19.13: ahead of what Wait told a packet is policed, from then on it is not.
func TestWaitIsExact(t *testing.T) {
	n, held := noise(19130), 0
	for _, kind := range kinds {
		for range 10 {
			c := anyConf(&n, kind)
			x := watchOf(t, &n, c)
			x.draw = func() api.Params { return anyParams(&n, c) }
			x.opens()
			for range 60 {
				x.ticks(n.below(3) * n.below(30))
				size := 1 + n.below(c.Most)
				at, e := x.f.Wait(x.open[0], size)
				if e != api.OK {
					if p := x.params[x.open[0]]; e != api.ErrPoliced || p.Rate > 0 && p.Burst >= size {
						t.Fatalf("Wait of %d with %+v: %v", size, p, e)
					}
					x.ticks(n.below(1000))
					refuses(t, x.f, x.open[0], size, api.ErrPoliced)
					continue
				}
				if at > x.now {
					held++
					x.ticks(n.below(at - x.now))
					refuses(t, x.f, x.open[0], size, api.ErrPoliced)
					x.ticks(at - 1 - x.now)
					refuses(t, x.f, x.open[0], size, api.ErrPoliced)
					x.ticks(1 + n.below(2)*n.below(9))
				}
				if _, _, e := x.f.Enqueue(x.open[0], 0, size); e != api.OK && e != api.ErrRefused {
					t.Fatalf("Enqueue at %d, Wait having told %d: %v", x.now, at, e)
				}
			}
		}
	}
	if held < 500 {
		t.Fatalf("only %d had to wait", held)
	}
}

// scribble writes over a list and the room behind it.
func scribble[T any](l []T, v T) {
	l = l[:cap(l)]
	for i := range l {
		l[i] = v
	}
}

// scribbled makes a call and writes over all that it told.
func (c call) scribbled(f *fair.Fair, k *clock.Fake) {
	bad := api.Packet{Flow: handle(-7, -7), ID: -7, Size: -7, Seq: -7, Came: -7}
	k.Set(c.reading)
	switch c.what {
	case api.CClose:
		l, _, _ := f.Close(c.flow)
		scribble(l, bad)
	case api.CSend:
		_, l, _ := f.Enqueue(c.flow, c.id, c.size)
		scribble(l, bad)
	case api.CPoll:
		l, _ := f.Poll()
		scribble(l, api.Departure{Packet: bad})
	case snapshot:
		s, _ := f.Snapshot()
		scribble(s.Delays, -7)
		for _, x := range s.Flows {
			scribble(x.Queue, bad)
			scribble(x.Delays, -7)
		}
		scribble(s.Flows, api.Flow{Late: -7})
	default:
		c.on(f, k)
	}
}

// 19.10: whoever writes into what was told changes nothing else.
func TestWhatIsToldIsNewMemory(t *testing.T) {
	n := noise(1910)
	for _, kind := range kinds {
		for range 12 {
			c := anyConf(&n, kind)
			f, k := begun(t, c)
			g, j := begun(t, c)
			for _, x := range script(t, &n, c, 250) {
				if n.below(3) > 0 {
					x.scribbled(g, j)
					x.on(f, k)
				}
				x.what = snapshot
				same(t, all(c, x), x.on(g, j), x.on(f, k))
			}
		}
	}
}

// 19.10: what was told stays as it was, whatever comes behind it.
func TestWhatWasToldStays(t *testing.T) {
	n := noise(19102)
	for _, kind := range kinds {
		c := anyConf(&n, kind)
		f, k := begun(t, c)
		var lists [][]api.Packet
		var left [][]api.Departure
		var looks []api.Snapshot
		var texts []string
		for _, x := range script(t, &n, c, 400) {
			k.Set(x.reading)
			var l []api.Packet
			var d []api.Departure
			var s api.Snapshot
			switch x.what {
			case api.CPoll:
				d, _ = f.Poll()
			case api.CSend:
				_, l, _ = f.Enqueue(x.flow, x.id, x.size)
			case api.CClose:
				l, _, _ = f.Close(x.flow)
			case snapshot:
				s, _ = f.Snapshot()
			default:
				x.on(f, k)
			}
			lists, left, looks, texts = append(lists, l), append(left, d), append(looks, s), append(texts, all(l, d, s))
		}
		for i, text := range texts {
			same(t, "what was told", all(lists[i], left[i], looks[i]), text)
		}
	}
}

// heap is how many bytes are in use.
func heap() int {
	var m runtime.MemStats
	runtime.GC()
	runtime.ReadMemStats(&m)
	return int(m.HeapAlloc)
}

// Nothing is kept of flows that were closed, nor of departures that were told, but how long those took.
func TestWhatIsKept(t *testing.T) {
	for _, kind := range kinds {
		f, k := begun(t, confOf(kind))
		before := heap()
		for i := range 20_000 {
			h := opens(t, f, plain(kind))
			k.Step(1)
			takes(t, f, h, i, 5)
			k.Step(5)
			f.Poll()
			f.Close(h)
		}
		if more := heap() - before; more > 500_000 {
			t.Fatalf("kind %d: %d bytes more", kind, more)
		}
		runtime.KeepAlive(f)
	}
}

// 19.10: no two lists of one answer share any memory.
func TestListsOfASnapshotAreApart(t *testing.T) {
	n := noise(19100)
	for _, kind := range kinds {
		c := anyConf(&n, kind)
		c.Room = 1000
		x := watchOf(t, &n, c)
		x.run(300)
		x.ticks(1)
		for range 40 {
			x.sends()
		}
		s := looks(t, x.f)
		want := all(s.Delays)
		for i, f := range s.Flows {
			rest := slices.Clone(s.Flows[i+1:])
			was := all(rest, s.Delays)
			scribble(f.Queue, api.Packet{ID: -7})
			scribble(f.Delays, -7)
			same(t, "the other lists", all(rest, s.Delays), was)
		}
		same(t, "the delays of all", all(s.Delays), want)
	}
}

// odd are ints at ends.
var odd = []int{math.MinInt, math.MinInt + 1, -1 << 62, -65536, -2, -1, 0, 1, 2, 3, 7, 50, 65535, 65536, 65537, 1 << 30, 1<<30 + 1, 1 << 40, 1<<40 + 1, 1<<62 - 1, 1 << 62, 1<<62 + 1, math.MaxInt - 1, math.MaxInt}

// 19.10: whatever is given, each call ends.
func TestWhateverIsGiven(t *testing.T) {
	n := noise(19101)
	rates := []float64{0, math.Copysign(0, -1), 1, 0.1, -1, 1 << 20, 1<<20 + 1, math.NaN(), math.Inf(1), math.Inf(-1), math.MaxFloat64, math.SmallestNonzeroFloat64}
	any := func() int { return one(&n, odd) }
	for range 3000 {
		c := api.Conf{Kind: n.below(9) - 1, Room: any(), Most: any(), Cap: any(), Flows: any(), Age: any()}
		for range n.below(3) {
			c.Nodes = append(c.Nodes, api.Node{Kind: n.below(8), Parent: any(), Quantum: any(), Age: any()})
		}
		fair.New(c, clock.NewFake(any()))
		fair.New(c, nil)
	}
	for _, kind := range kinds {
		for round := range 40 {
			c := anyConf(&n, kind)
			c.Most, c.Room, c.Cap, c.Flows = 65536, 1<<18, 4096, 256
			f, k := begun(t, c)
			for i := range 200 {
				x := call{what: 1 + n.below(9), flow: handle(n.below(4), 1), id: any(), size: any(), reading: i}
				x.params = rich(anyParams(&n, c))
				switch n.below(8) {
				case 0:
					x.params = api.Params{Weight: any(), Quantum: any(), Class: any(), Span: any(), Burst: any(), Rate: one(&n, rates), Per: any(), Node: any()}
				case 1:
					x.flow = handle(any(), any())
				case 2:
					x.params.Burst, x.params.Rate, x.params.Per = 1<<40, one(&n, rates), 1<<30
				case 3:
					x.size = 65536
				}
				// At times the end is near, or there.
				if round%4 == 0 && i > 100 {
					x.reading = any()
				}
				if round%4 == 1 && i > 100 {
					x.reading = 1<<62 - 200 + i
				}
				x.on(f, k)
			}
		}
	}
}

// Many packets in many flows, and one Poll for all of them, in time; of each kind.
func TestManyPackets(t *testing.T) {
	for _, kind := range kinds {
		n := noise(20_000)
		c := anyConf(&n, kind)
		c.Most, c.Room, c.Cap, c.Flows = 65536, 1<<30, 4096, 256
		f, k := begun(t, c)
		p := rich(anyParams(&n, c))
		p.Burst, p.Rate = 1<<40, 1<<20
		for range 256 {
			opens(t, f, p)
		}
		k.Set(1 << 20)
		bytes := 0
		for i := range 20_000 {
			size := 1 + n.below(2000)
			bytes += size
			takes(t, f, handle(i*7%256, 1), i, size)
		}
		s := looks(t, f)
		if len(s.Flows) != 256 || s.Total.Queued != count(20_000, bytes) {
			t.Fatalf("kind %d: %+v", kind, s.Total)
		}
		k.Set(1<<20 + bytes)
		l, e := f.Poll()
		if len(l) != 20_000 || l[19_999].Left != 1<<20+bytes || e != api.OK {
			t.Fatalf("kind %d: %d departures, %v", kind, len(l), e)
		}
		s = looks(t, f)
		if s.Total.Departed != count(20_000, bytes) || s.Gauge.Greatest != float64(bytes) {
			t.Fatalf("kind %d: %+v %+v", kind, s.Total, s.Gauge)
		}
	}
}
