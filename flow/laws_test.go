package flow_test

import (
	"fmt"
	"math"
	"slices"
	"testing"

	"millrace/api"
	"millrace/flow"
)

// kinds is a set-up of each kind; the flows of each can be opened with what flowOf gives.
func kinds(flows int) []api.Conf {
	c := api.Conf{Room: 1000, Most: 50, Cap: 10, Flows: flows}
	var all []api.Conf
	for _, k := range []int{api.WFQ, api.WF2, api.DRR, api.EDF, api.AGE, api.TREE} {
		c.Kind, c.Age, c.Nodes = k, 0, nil
		switch k {
		case api.AGE:
			c.Age = 7
		case api.TREE:
			c.Nodes = []api.Node{{Kind: api.TREE}, {Kind: api.AGE, Quantum: 5, Age: 7}, {Kind: api.TREE, Quantum: 9}, {Kind: api.DRR, Parent: 2, Quantum: 1}}
		}
		all = append(all, c)
	}
	return all
}

// flowOf is parameters that may be under a set-up of kinds.
func flowOf(n *noise, c api.Conf) api.Params {
	p := api.Params{
		Weight: 1 + n.below(c.Cap),
		Burst:  1 + n.below(120),
		Rate:   oneOf(n, 0, math.Copysign(0, -1), 0.1, 1.0/3, 1, 2.5, 40, 1<<20),
		Per:    oneOf(n, 1, 1, 3, 1<<30),
	}
	kind := c.Kind
	if kind == api.TREE {
		p.Node = oneOf(n, 1, 3)
		kind = c.Nodes[p.Node].Kind
	}
	switch kind {
	case api.DRR:
		p.Quantum = 1 + n.below(1000)
	case api.EDF:
		p.Span = n.below(1000)
	case api.AGE:
		p.Class = n.below(16)
	}
	return p
}

// spoilt is the parameters with a field that may not be.
func spoilt(n *noise, p api.Params) api.Params {
	switch n.below(6) {
	case 0:
		p.Weight = oneOf(n, 0, 11)
	case 1:
		p.Burst = oneOf(n, 0, api.MaxBurst+1)
	case 2:
		p.Rate = oneOf(n, -1, math.NaN(), math.Inf(1), 1<<20+1)
	case 3:
		p.Per = 0
	case 4:
		p.Class, p.Span = 16, 1
	case 5:
		p.Node = oneOf(n, -1, 2, 4)
	}
	return p
}

// call is one call of a table.
type call struct {
	kind         string
	h            api.Handle
	p            api.Params
	id, size, at int
}

// answer is what a call was answered, as far as its kind has it.
type answer struct {
	e      api.Errno
	h      api.Handle
	tick   int
	packet api.Packet
	list   []api.Packet
	books  api.Counters
	flows  []api.Flow
}

func (a answer) is(b answer) bool {
	return a.e == b.e && a.h == b.h && a.tick == b.tick && a.packet == b.packet && slices.Equal(a.list, b.list) &&
		a.books == b.books && slices.EqualFunc(a.flows, b.flows, sameFlow)
}

// does makes a call.
func does(x *flow.Table, c call) (a answer) {
	var f api.Flow
	switch c.kind {
	case "open":
		a.h, a.e = x.Open(c.p, c.at)
	case "close":
		a.list, a.books, a.e = x.Close(c.h)
	case "look":
		a.e = x.Look(c.h, c.size, c.at)
	case "wait":
		a.tick, a.e = x.Wait(c.h, c.size, c.at)
	case "refuse":
		a.e = x.Refuse(c.h, c.size)
	case "admit":
		a.packet, a.e = x.Admit(c.h, c.id, c.size, c.at)
	case "evict":
		a.packet, a.e = x.Evict(c.h)
	case "begin":
		a.packet, a.e = x.Begin(c.h)
	case "left":
		a.packet, a.e = x.Left()
	case "books":
		a.books, a.e = x.Books(c.h)
	case "tell":
		f, a.e = x.Tell(c.h, c.at)
		a.flows = []api.Flow{f}
	case "all":
		a.flows = slices.Collect(x.All(c.at))
	}
	return a
}

// should is what a call should be answered.
func (m *model) should(c call) (a answer) {
	var f api.Flow
	switch c.kind {
	case "open":
		a.h, a.e = m.open(c.p, c.at)
	case "close":
		a.list, a.books, a.e = m.close(c.h)
	case "look":
		a.e = m.look(c.h, c.size, c.at)
	case "wait":
		a.tick, a.e = m.wait(c.h, c.size, c.at)
	case "refuse":
		a.e = m.refuse(c.h, c.size)
	case "admit":
		a.packet, a.e = m.admit(c.h, c.id, c.size, c.at)
	case "evict":
		a.packet, a.e = m.evict(c.h)
	case "begin":
		a.packet, a.e = m.begin(c.h)
	case "left":
		a.packet, a.e = m.left()
	case "books":
		if a.e = api.ErrHandle; m.find(c.h) != nil {
			a.books, a.e = m.booksOf(c.h), api.OK
		}
	case "tell":
		f, a.e = m.tell(c.h, c.at)
		a.flows = []api.Flow{f}
	case "all":
		a.flows = m.all(c.at)
	}
	return a
}

// handle is mostly that of an open flow, else one of nothing.
func (n *noise) handle(m *model) api.Handle {
	if hs := m.handles(); len(hs) > 0 && n.below(12) > 0 {
		return oneOf(n, hs...)
	}
	slot := n.below(len(m.lanes)+2) - 1
	return oneOf(n, api.Handle{}, api.Handle{Slot: slot, Gen: n.below(4)}, api.Handle{Slot: int(n.word()), Gen: int(n.word())})
}

// next is a call behind those that the model has had, such that each answer is met often.
func (n *noise) next(m *model, now int) call {
	c := call{
		kind: oneOf(n, "open", "open", "close", "look", "wait", "refuse", "admit", "admit", "admit", "admit", "admit", "evict", "begin", "begin", "left", "left", "books", "tell", "all"),
		h:    n.handle(m), p: flowOf(n, m.conf), id: int(n.word()), size: 1 + n.below(20), at: now,
	}
	if n.below(8) == 0 {
		c.p = spoilt(n, c.p)
	}
	if n.below(8) == 0 {
		c.size = oneOf(n, 0, -1, 1, 49, 50, 51, math.MinInt, math.MaxInt)
	}
	if n.below(8) == 0 {
		c.at = oneOf(n, now-n.below(9), now+n.below(50), -1, math.MinInt)
	}
	if n.below(200) == 0 {
		c.at = oneOf(n, lastTick, lastTick+1, math.MaxInt)
	}
	return c
}

// run makes calls of a table and of its model, which must be answered alike; behind each one it hands over to see.
func run(t *testing.T, n *noise, c api.Conf, calls int, see func(what string, x *flow.Table, m *model, c call, a answer)) {
	t.Helper()
	x, e := flow.New(c)
	if e != api.OK {
		t.Fatal(e)
	}
	m, now := modelOf(c), n.below(100)
	for i := range calls {
		if n.below(3) == 0 {
			now += n.below(30)
		}
		c := n.next(m, now)
		what := fmt.Sprintf("kind %d, call number %d, %+v", m.conf.Kind, i+1, c)
		want, got := m.should(c), does(x, c)
		if !got.is(want) {
			t.Fatalf("%s: %+v, want %+v", what, got, want)
		}
		see(what, x, m, c, got)
	}
}

// 10.1 to 10.8: whatever is called, each answer is the model's, and so is all that can be told behind it.
func TestAgainstTheModel(t *testing.T) {
	n := noise(101)
	seen := map[string]int{}
	for range 12 {
		for _, c := range kinds(1 + n.below(5)) {
			run(t, &n, c, 250, func(what string, x *flow.Table, m *model, c call, a answer) {
				agrees(t, what, x, m)
				seen[fmt.Sprint(c.kind, " ", int(a.e))]++
			})
		}
	}
	for kind, errors := range map[string][]api.Errno{
		"open":   {api.OK, api.ErrArg, api.ErrFull, api.ErrWeight, api.ErrClass, api.ErrBurst, api.ErrRate},
		"close":  {api.OK, api.ErrHandle},
		"look":   {api.OK, api.ErrHandle, api.ErrSize, api.ErrPoliced},
		"wait":   {api.OK, api.ErrHandle, api.ErrSize, api.ErrPoliced},
		"refuse": {api.OK, api.ErrHandle, api.ErrSize},
		"admit":  {api.OK, api.ErrHandle, api.ErrSize, api.ErrPoliced, api.ErrArg},
		"evict":  {api.OK, api.ErrHandle, api.ErrArg},
		"begin":  {api.OK, api.ErrHandle, api.ErrArg},
		"left":   {api.OK, api.ErrArg},
		"books":  {api.OK, api.ErrHandle},
		"tell":   {api.OK, api.ErrHandle},
		"all":    {api.OK},
	} {
		for _, e := range errors {
			if k := fmt.Sprint(kind, " ", int(e)); seen[k] < 5 {
				t.Errorf("%s: met %d times alone", k, seen[k])
			}
		}
	}
}

// plus is two counters together.
func plus(a, b api.Counters) api.Counters {
	sum := func(a, b api.Count) api.Count {
		return api.Count{Packets: a.Packets + b.Packets, Bytes: a.Bytes + b.Bytes}
	}
	return api.Counters{
		Offered: sum(a.Offered, b.Offered), Refused: sum(a.Refused, b.Refused), Evicted: sum(a.Evicted, b.Evicted),
		Departed: sum(a.Departed, b.Departed), Queued: sum(a.Queued, b.Queued), Sending: sum(a.Sending, b.Sending),
	}
}

// balanced asks books to balance, in packets and in bytes.
func balanced(t *testing.T, what string, c api.Counters) {
	t.Helper()
	packets := c.Refused.Packets + c.Evicted.Packets + c.Departed.Packets + c.Queued.Packets + c.Sending.Packets
	bytes := c.Refused.Bytes + c.Evicted.Bytes + c.Departed.Bytes + c.Queued.Bytes + c.Sending.Bytes
	if c.Offered != (api.Count{Packets: packets, Bytes: bytes}) {
		t.Fatalf("%s: the books do not balance: %+v", what, c)
	}
}

// held is what a queue holds.
func held(l []api.Packet) (c api.Count) {
	for _, p := range l {
		c.Packets++
		c.Bytes += p.Size
	}
	return c
}

// 10.9: the books balance behind each call, queued is what the queue holds, and the books of all are the sums.
func TestBooksBalance(t *testing.T) {
	n := noise(109)
	for range 10 {
		for _, c := range kinds(1 + n.below(4)) {
			var closed api.Counters       // what closed flows left behind
			var lingering, now api.Packet // the one on the link, lingering if its flow is closed
			run(t, &n, c, 250, func(what string, x *flow.Table, m *model, c call, a answer) {
				switch {
				case a.e != api.OK:
				case c.kind == "begin":
					now = a.packet
				case c.kind == "close":
					closed = plus(closed, a.books)
					if now.Flow == c.h {
						lingering = now
					}
				case c.kind == "left":
					if lingering == a.packet {
						size := lingering.Size
						closed = plus(closed, api.Counters{Departed: api.Count{Packets: 1, Bytes: size}, Sending: api.Count{Packets: -1, Bytes: -size}})
					}
					lingering, now = api.Packet{}, api.Packet{}
				}
				sum := closed
				for f := range x.All(-1) {
					balanced(t, what, f.Counters)
					if held(f.Queue) != f.Counters.Queued {
						t.Fatalf("%s: queued %+v, the queue %v", what, f.Counters.Queued, f.Queue)
					}
					sum = plus(sum, f.Counters)
				}
				balanced(t, what, x.Total())
				if x.Total() != sum {
					t.Fatalf("%s: Total %+v, the sums %+v", what, x.Total(), sum)
				}
			})
		}
	}
}

// 10.10: in a queue numbers rise and ticks do not fall, and its packets are its flow's.
func TestQueuesAreInOrder(t *testing.T) {
	n := noise(110)
	longest := 0
	for range 10 {
		for _, c := range kinds(1 + n.below(3)) {
			run(t, &n, c, 250, func(what string, x *flow.Table, _ *model, _ call, _ answer) {
				for f := range x.All(-1) {
					longest = max(longest, len(f.Queue))
					for i, p := range f.Queue {
						if p.Flow != f.Handle || p.Seq < 1 || p.Seq > x.Seq() || i > 0 && (p.Seq <= f.Queue[i-1].Seq || p.Came < f.Queue[i-1].Came) {
							t.Fatalf("%s: a queue out of order: %v", what, f.Queue)
						}
					}
				}
			})
		}
	}
	if longest < 5 {
		t.Fatalf("no queue was longer than %d", longest)
	}
}

// told is a list that was told, and what it held then.
type told struct{ list, was []api.Packet }

// scribble writes into a list, behind its end too.
func scribble(l []api.Packet) {
	l = l[:cap(l)]
	for i := range l {
		l[i] = api.Packet{Flow: api.Handle{Slot: -7, Gen: -7}, ID: -7, Size: -7, Seq: -7, Came: -7}
	}
}

// 10.11: whoever writes into what was told changes neither the table nor what was told elsewhere.
func TestAnswersAreNewMemory(t *testing.T) {
	n := noise(111)
	for range 6 {
		for _, c := range kinds(1 + n.below(4)) {
			var lists []told
			run(t, &n, c, 150, func(what string, x *flow.Table, m *model, c call, a answer) {
				keep := func(l []api.Packet) {
					if cap(l) > 0 {
						lists = append(lists, told{l[:cap(l)], slices.Clone(l[:cap(l)])})
					}
				}
				keep(a.list)
				for _, f := range a.flows {
					keep(f.Queue)
				}
				if len(lists) == 0 || n.below(4) > 0 {
					return
				}
				i := n.below(len(lists))
				scribble(lists[i].list)
				lists = slices.Delete(lists, i, i+1)
				for _, l := range lists {
					if !slices.Equal(l.list, l.was) {
						t.Fatalf("%s: a list that was told has become another: %v, want %v", what, l.list, l.was)
					}
				}
				agrees(t, what, x, m)
			})
		}
	}
}

// 10.11: no call panics, whatever it is given, at the ends of all ints.
func TestWhateverIsGiven(t *testing.T) {
	ints := []int{math.MinInt, math.MinInt + 1, -1, 0, 1, 2, 50, 51, lastTick - 1, lastTick, lastTick + 1, math.MaxInt}
	n := noise(112)
	for _, c := range kinds(3) {
		x, _ := flow.New(c)
		m := modelOf(c)
		for i := range 3000 {
			c := n.next(m, 0)
			c.size, c.at = oneOf(&n, ints...), oneOf(&n, ints...)
			if n.below(2) == 0 {
				c.h = api.Handle{Slot: oneOf(&n, ints...), Gen: oneOf(&n, ints...)}
			}
			if n.below(8) == 0 {
				c.p = api.Params{Weight: oneOf(&n, ints...), Quantum: oneOf(&n, ints...), Class: oneOf(&n, ints...), Span: oneOf(&n, ints...), Burst: oneOf(&n, ints...), Rate: float64(oneOf(&n, ints...)), Per: oneOf(&n, ints...), Node: oneOf(&n, ints...)}
			}
			if want, got := m.should(c), does(x, c); !got.is(want) {
				t.Fatalf("call number %d, %+v: %+v, want %+v", i+1, c, got, want)
			}
		}
		agrees(t, "at last", x, m)
	}
}
