package trace_test

import (
	"math"
	"slices"
	"testing"

	"millrace/api"
	"millrace/clock"
	"millrace/fair"
	"millrace/trace"
)

// noise gives the same words in every run.
type noise uint64

func (n *noise) word() uint64 {
	*n += 0x9e3779b97f4a7c15
	z := uint64(*n)
	z = (z ^ z>>30) * 0xbf58476d1ce4e5b9
	z = (z ^ z>>27) * 0x94d049bb133111eb
	return z ^ z>>31
}

func (n *noise) below(bound int) int { return int(n.word() % uint64(bound)) }

// one is one of a list, which must not be empty.
func one[T any](n *noise, l ...T) T { return l[n.below(len(l))] }

// kinds are all kinds of disciplines, and asked all kinds of calls.
var (
	kinds = []int{api.WFQ, api.DRR, api.EDF, api.AGE, api.WF2, api.TREE}
	asked = []int{api.COpen, api.CClose, api.CSend, api.CPoll, api.CStats, api.CTotal}
)

// noKinds are numbers of no kind of either.
var noKinds = []int{0, -1, 7, 8, 1 << 32, math.MinInt, math.MaxInt}

// anyConf is a set-up of a kind that may be, with a small buffer.
func anyConf(n *noise, kind int) api.Conf {
	c := api.Conf{Kind: kind, Most: 5 + n.below(30), Cap: 12 + n.below(12), Flows: 2 + n.below(3)}
	c.Room = c.Most + n.below(60)
	switch kind {
	case api.AGE:
		c.Age = n.below(20)
	case api.TREE:
		c.Nodes = []api.Node{{Kind: api.TREE}, {Kind: api.TREE, Quantum: 1 + n.below(20)}}
		for k := range api.TREE {
			x := api.Node{Kind: k%5 + 1, Parent: (k + n.below(2)) % 2, Quantum: 1 + n.below(20)}
			if x.Kind == api.AGE {
				x.Age = n.below(20)
			}
			c.Nodes = append(c.Nodes, x)
		}
		c.Nodes[2].Parent = 1
	}
	return c
}

// anyParams are a flow's, which may be, but that now and then one thing is wrong.
func anyParams(n *noise, c api.Conf) api.Params {
	p := api.Params{Weight: 1 + n.below(5), Burst: 1 + n.below(300), Rate: one(n, 0.1, 1.5, 20, 300, 300), Per: 1 + n.below(3)}
	kind := c.Kind
	if kind == api.TREE {
		p.Node = 2 + n.below(len(c.Nodes)-2)
		kind = c.Nodes[p.Node].Kind
	}
	switch kind {
	case api.DRR:
		p.Quantum = 1 + n.below(30)
	case api.EDF:
		p.Span = n.below(80)
	case api.AGE:
		p.Class = n.below(5)
	}
	switch n.below(40) {
	case 0:
		p.Rate = one(n, -1, math.NaN(), math.Inf(1), math.Copysign(0, -1))
	case 1:
		p.Weight = one(n, 0, -1, 5000)
	case 2:
		p.Node = one(n, -1, 1, 77)
	}
	return p
}

// anyScript are calls of a scheduler: most of them may be answered well. A scheduler beside tells which handles there are.
func anyScript(n *noise, c api.Conf, size int) []api.Call {
	var l []api.Call
	at := 0
	f, _ := fair.New(c, clock.Func(func() int { return l[len(l)-1].Reading }))
	handles := []api.Handle{{Slot: n.below(5), Gen: n.below(3)}}
	for i := range size {
		x := api.Call{Kind: api.COpen}
		if i >= c.Flows {
			x.Kind = one(n, api.CSend, api.CSend, api.CSend, api.CSend, api.CSend, api.CSend, api.CSend, api.CSend, api.CPoll, api.CPoll, api.CStats, api.CTotal, api.CClose, api.COpen, api.COpen, api.COpen)
			at += n.below(6)
		}
		x.Reading = at
		if n.below(20) == 0 {
			x.Reading = one(n, -1, 0, math.MinInt, at/2)
		}
		h := handles[max(n.below(len(handles)), n.below(len(handles)))]
		switch x.Kind {
		case api.COpen:
			x.Params = anyParams(n, c)
		case api.CSend:
			x.Flow, x.ID, x.Size = h, n.below(100)-50, 1+n.below(c.Most+1)
		case api.CStats, api.CClose:
			x.Flow = h
		}
		l = append(l, x)
		switch x.Kind {
		case api.COpen:
			if h, e := f.Open(x.Params); e == api.OK {
				handles = append(handles, h)
			}
		case api.CClose:
			f.Close(h)
			if n.below(4) > 0 {
				handles = append(handles[:1], slices.DeleteFunc(handles[1:], func(x api.Handle) bool { return x == h })...)
			}
		}
	}
	if n.below(4) == 0 {
		l = append(l, api.Call{Kind: api.CPoll, Reading: 1 << 62}, api.Call{Kind: api.CTotal, Reading: 1<<62 + 1}, api.Call{Kind: api.CPoll})
	}
	return l
}

// recorded is the trace of calls that must be taken.
func recorded(t *testing.T, c api.Conf, l []api.Call) api.Trace {
	t.Helper()
	x, e := trace.Record(c, l)
	is(t, "Record", e, api.OK)
	return x
}

// printed is the text of a trace that must have one.
func printed(t *testing.T, x api.Trace) string {
	t.Helper()
	s, e := trace.Print(x)
	is(t, "Print", e, api.OK)
	return s
}

// parsed is the trace of a text that must be one.
func parsed(t *testing.T, s string) api.Trace {
	t.Helper()
	x, e, line := trace.Parse(s)
	if e != api.OK || line != 0 {
		t.Fatalf("Parse of %.400q: %v, line %d", s, e, line)
	}
	return x
}

func is(t *testing.T, what string, got, want api.Errno) {
	t.Helper()
	if got != want {
		t.Fatalf("%s: %v, want %v", what, got, want)
	}
}

// anyInt is an int of any size, small ones often.
func anyInt(n *noise) int {
	switch n.below(6) {
	case 0:
		return one(n, math.MinInt, math.MaxInt, math.MinInt+1, -1, 1<<32, -10, 10, 9, 100)
	case 1:
		return int(n.word() >> n.below(64))
	case 2:
		return -int(n.word() >> (1 + n.below(63)))
	case 3:
		return 0
	}
	return n.below(12)
}

// anyTrace is a trace that has a text, though no scheduler would tell it.
func anyTrace(n *noise, size int) api.Trace {
	x := api.Trace{Conf: api.Conf{Kind: one(n, kinds...), Room: anyInt(n), Most: anyInt(n), Cap: anyInt(n), Flows: anyInt(n), Age: anyInt(n)}}
	for range n.below(4) {
		x.Conf.Nodes = append(x.Conf.Nodes, api.Node{Kind: one(n, kinds...), Parent: anyInt(n), Quantum: anyInt(n), Age: anyInt(n)})
	}
	for range size {
		c := api.Call{Kind: one(n, asked...), Reading: anyInt(n)}
		switch c.Kind {
		case api.COpen:
			c.Params = api.Params{
				Weight: anyInt(n), Quantum: anyInt(n), Class: anyInt(n), Span: anyInt(n),
				Burst: anyInt(n), Rate: api.Float(n.word() >> one(n, 0, 0, 4, 40, 63)), Per: anyInt(n), Node: anyInt(n),
			}
		case api.CSend:
			c.Flow, c.ID, c.Size = anyHandle(n), anyInt(n), anyInt(n)
		case api.CClose, api.CStats:
			c.Flow = anyHandle(n)
		}
		x.Calls = append(x.Calls, c)
		x.Told = append(x.Told, anyTold(n, c.Kind))
	}
	return x
}

func anyHandle(n *noise) api.Handle { return api.Handle{Slot: anyInt(n), Gen: anyInt(n)} }

func anyPacket(n *noise) api.Packet {
	return api.Packet{Flow: anyHandle(n), ID: anyInt(n), Size: anyInt(n), Seq: anyInt(n), Came: anyInt(n)}
}

// anyTold is something that a call of a kind may be told.
func anyTold(n *noise, kind int) api.Told {
	var t api.Told
	if n.below(5) == 0 {
		t.Err = api.Errno(one(n, 1, 60, 170, math.MaxInt, 1<<40))
		return t
	}
	switch kind {
	case api.COpen:
		t.Flow = anyHandle(n)
	case api.CSend:
		t.Seq = anyInt(n)
	case api.CClose, api.CStats, api.CTotal:
		for _, c := range []*api.Count{&t.Books.Offered, &t.Books.Refused, &t.Books.Evicted, &t.Books.Departed, &t.Books.Queued, &t.Books.Sending} {
			c.Packets, c.Bytes = anyInt(n), anyInt(n)
		}
	}
	for range n.below(4) {
		switch kind {
		case api.CClose, api.CSend:
			t.Packets = append(t.Packets, anyPacket(n))
		case api.CPoll:
			t.Left = append(t.Left, api.Departure{Packet: anyPacket(n), Began: anyInt(n), Left: anyInt(n)})
		}
	}
	return t
}
