package link_test

import (
	"math"
	"slices"
	"strconv"
	"testing"

	"millrace/api"
	"millrace/conf"
	"millrace/disc"
	"millrace/link"
)

var a, b, c = api.Handle{Slot: 0, Gen: 1}, api.Handle{Slot: 1, Gen: 1}, api.Handle{Slot: 2, Gen: 1}

// small is a set-up with a room of 30 bytes, and packets of 20 at most.
var small = api.Conf{Kind: api.AGE, Room: 30, Most: 20, Cap: 10, Flows: 4, Age: 5}

func pk(h api.Handle, size, seq, came int) api.Packet {
	return api.Packet{Flow: h, Size: size, Seq: seq, Came: came}
}

// numbers holds a list of packets against their numbers.
func numbers(t *testing.T, what string, l []api.Packet, e api.Errno, want ...int) {
	t.Helper()
	is(t, what, e, api.OK)
	var got []int
	for _, p := range l {
		got = append(got, p.Seq)
	}
	if !slices.Equal(got, want) {
		t.Fatalf("%s: %v, want %v", what, got, want)
	}
}

// refuses holds an error against the one that it should be, and looks that nothing stands beside it.
func refuses(t *testing.T, what string, l []api.Packet, e, want api.Errno) {
	t.Helper()
	if e != want || len(l) != 0 {
		t.Fatalf("%s: %v %d, want %d", what, l, e, want)
	}
}

// stay is a number, and from when to when its packet was on the link.
type stay struct{ seq, began, left int }

// replays holds what a replay tells against the numbers that began and the stays that ended.
func replays(t *testing.T, l *link.Link, at int, poll bool, began []int, left ...stay) {
	t.Helper()
	first, then := l.Replay(at, poll)
	numbers(t, "began", first, api.OK, began...)
	var got []stay
	for _, d := range then {
		got = append(got, stay{d.Seq, d.Began, d.Left})
	}
	same(t, "left", got, left, api.OK, api.OK)
}

// holds looks how many bytes and packets there are.
func holds(t *testing.T, l *link.Link, bytes, queued int) {
	t.Helper()
	if l.Bytes() != bytes || l.Len() != queued {
		t.Fatalf("Bytes %d, Len %d, want %d, %d", l.Bytes(), l.Len(), bytes, queued)
	}
}

// offers offers a packet of the number at the link's time, for which these are to go.
func offers(t *testing.T, l *link.Link, h api.Handle, size, seq int, gone ...int) {
	t.Helper()
	got, e := l.Offer(pk(h, size, seq, l.Time()))
	numbers(t, "Offer", got, e, gone...)
}

// over is a link over a discipline, with A, B and C joined.
func over(t *testing.T, d disc.Discipline) *link.Link {
	t.Helper()
	l, e := link.Over(small, d)
	is(t, "Over", e, api.OK)
	for _, h := range []api.Handle{a, b, c} {
		is(t, "Join", l.Join(h, api.Params{Weight: 1}), api.OK)
	}
	return l
}

// The chapter's table.
func TestExample(t *testing.T) {
	l := over(t, disc.NewLine())
	offers(t, l, a, 10, 1)
	offers(t, l, b, 10, 2)
	got, e := l.Offer(pk(b, 11, 3, 0))
	refuses(t, "Offer of 11", got, e, api.ErrRefused)
	offers(t, l, b, 10, 3)
	at, ok := l.Due()
	reads(t, "Due", at, ok, 0, true)
	replays(t, l, 0, false, nil)
	replays(t, l, 0, true, []int{1})
	now, ok := l.Now()
	reads(t, "Now", now, ok, api.Departure{Packet: pk(a, 10, 1, 0), Left: 10}, true)
	at, ok = l.Due()
	reads(t, "Due", at, ok, 10, true)
	replays(t, l, 10, false, nil, stay{1, 0, 10})
	holds(t, l, 20, 2)
	replays(t, l, 25, false, []int{2, 3}, stay{2, 10, 20})
	got, e = l.Leave(b)
	numbers(t, "Leave", got, e)
	holds(t, l, 10, 0)
	replays(t, l, 30, false, nil, stay{3, 20, 30})
	for p, want := range map[api.Packet]api.Errno{pk(a, 1, 4, 7): api.ErrArg, pk(a, 21, 4, 30): api.ErrSize, pk(a, 1, 3, 30): api.ErrArg} {
		got, e = l.Offer(p)
		refuses(t, "Offer", got, e, want)
	}
	offers(t, l, a, 5, 4)
	replays(t, l, 40, true, []int{4}, stay{4, 30, 35})
}

// 17.7: what conf says is wrong with the set-up; behind that, for Over, no discipline.
func TestNew(t *testing.T) {
	n := noise(177)
	for range 500 {
		c := anyConf(&n, one(&n, kinds))
		switch n.below(9) {
		case 0:
			c.Kind = n.below(9) - 1
		case 1:
			c.Room = one(&n, []int{c.Most - 1, c.Most, 1<<30 + 1, -1})
		case 2:
			c.Most = one(&n, []int{0, c.Room, c.Room + 1, 65537, math.MinInt})
		case 3:
			c.Cap = one(&n, []int{0, 4096, 4097})
		case 4:
			c.Flows = one(&n, []int{0, 256, 257})
		case 5:
			c.Age = one(&n, []int{-1, 0, 1, 1<<40 + 1})
		case 6:
			c.Nodes = []api.Node{{Kind: api.TREE}}
		}
		want := conf.Check(c)
		l, e := link.New(c)
		if e != want || (l != nil) != (want == api.OK) {
			t.Fatalf("New of %v: %v %d, want %d", c, l, e, want)
		}
		l, e = link.Over(c, disc.NewLine())
		if e != want || (l != nil) != (want == api.OK) {
			t.Fatalf("Over of %v: %v %d, want %d", c, l, e, want)
		}
		if want == api.OK {
			want = api.ErrArg
		}
		if l, e := link.Over(c, nil); l != nil || e != want {
			t.Fatalf("Over of %v and nothing: %v %d, want %d", c, l, e, want)
		}
	}
}

// 17.7, 17.8, 17.12, 17.13: what a new one tells.
func TestFresh(t *testing.T) {
	n := noise(1771)
	for _, kind := range kinds {
		l, e := link.New(anyConf(&n, kind))
		is(t, "New", e, api.OK)
		holds(t, l, 0, 0)
		if l.Time() != 0 || l.Weight() != 0 {
			t.Fatalf("Time %d, Weight %d", l.Time(), l.Weight())
		}
		now, ok := l.Now()
		reads(t, "Now", now, ok, api.Departure{}, false)
		at, ok := l.Due()
		reads(t, "Due", at, ok, 0, false)
		replays(t, l, 9, true, nil)
	}
}

// 17.7: which discipline it is. Each kind sends in an order of its own.
func TestKinds(t *testing.T) {
	flows := []api.Params{
		{Weight: 1, Quantum: 20, Class: 2, Span: 30},
		{Weight: 4, Quantum: 2, Class: 1, Span: 50},
		{Weight: 2, Quantum: 10, Class: 0, Span: 10},
	}
	for kind, want := range map[int][]int{api.WFQ: {3, 4, 5, 1, 6, 2}, api.WF2: {3, 5, 4, 1, 6, 2}, api.DRR: {1, 2, 5, 6, 3, 4}, api.EDF: {5, 6, 1, 2, 3, 4}, api.AGE: {5, 6, 3, 4, 1, 2}, api.TREE: {1, 3, 4, 2, 5, 6}} {
		c := api.Conf{Kind: kind, Room: 100, Most: 20, Cap: 10, Flows: 3}
		switch kind {
		case api.AGE:
			c.Age = 5
		case api.TREE:
			c.Nodes = []api.Node{{Kind: api.TREE}, {Kind: api.EDF, Quantum: 10}, {Kind: api.EDF, Quantum: 20}, {Kind: api.EDF, Quantum: 2}}
		}
		l, e := link.New(c)
		is(t, "New", e, api.OK)
		for i, p := range flows {
			if kind == api.TREE {
				p.Node = i + 1
			}
			is(t, "Join", l.Join(api.Handle{Slot: i, Gen: 1}, p), api.OK)
		}
		for i, h := range []api.Handle{a, a, b, b, {Slot: 2, Gen: 1}, {Slot: 2, Gen: 1}} {
			offers(t, l, h, 10, i+1)
		}
		began, _ := l.Replay(200, true)
		numbers(t, "kind "+strconv.Itoa(kind), began, api.OK, want...)
	}
}

// 17.7: two have nothing in common, and the list of nodes is not kept.
func TestTwoApart(t *testing.T) {
	n := noise(1772)
	c := anyConf(&n, api.TREE)
	x, _ := link.New(c)
	clear(c.Nodes)
	y, e := link.New(small)
	is(t, "New", e, api.OK)
	is(t, "Join", x.Join(a, api.Params{Weight: 3, Quantum: 1, Node: 2}), api.OK)
	x.Replay(5, true)
	offers(t, x, a, 5, 1)
	holds(t, y, 0, 0)
	if y.Time() != 0 || y.Weight() != 0 {
		t.Fatal("one knows of the other's")
	}
	replays(t, x, 20, true, []int{1}, stay{1, 5, 10})
}

// asked is a discipline that writes down what it is asked.
type asked struct {
	disc.Discipline
	calls []string
}

func (d *asked) note(call string, ints ...int) {
	for _, n := range ints {
		call += " " + strconv.Itoa(n)
	}
	d.calls = append(d.calls, call)
}

func (d *asked) Join(h api.Handle, p api.Params, t int) api.Errno {
	d.note("Join", h.Slot, h.Gen, p.Weight, t)
	return d.Discipline.Join(h, p, t)
}

func (d *asked) Leave(h api.Handle, t int) ([]api.Packet, api.Errno) {
	d.note("Leave", h.Slot, h.Gen, t)
	return d.Discipline.Leave(h, t)
}

func (d *asked) Admit(p api.Packet) api.Errno {
	d.note("Admit", p.Flow.Slot, p.Size, p.Seq, p.Came)
	return d.Discipline.Admit(p)
}

func (d *asked) Plan(p api.Packet, need int) ([]api.Packet, api.Errno) {
	d.note("Plan", p.Flow.Slot, p.Size, p.Seq, p.Came, need)
	return d.Discipline.Plan(p, need)
}

func (d *asked) Evict(p api.Packet) api.Errno {
	d.note("Evict", p.Seq)
	return d.Discipline.Evict(p)
}

func (d *asked) Next(t int) (api.Packet, bool) {
	d.note("Next", t)
	return d.Discipline.Next(t)
}

func (d *asked) Weight(t int) int {
	d.note("Weight", t)
	return d.Discipline.Weight(t)
}

// were holds what was asked since the last look against what should have been.
func (d *asked) were(t *testing.T, want ...string) {
	t.Helper()
	if !slices.Equal(d.calls, want) {
		t.Fatalf("asked %q, want %q", d.calls, want)
	}
	d.calls = nil
}

// 17.7: what a link asks of its discipline, how often, and at which ticks.
func TestAsks(t *testing.T) {
	// Of the class 0, A goes ahead of B and C, which may be evicted for it.
	x, e := link.New(small)
	is(t, "New", e, api.OK)
	if x.Weight() != 0 {
		t.Fatal("Weight")
	}
	d := &asked{Discipline: disciplineOf(small)}
	l, e := link.Over(small, d)
	is(t, "Over", e, api.OK)
	d.were(t)
	is(t, "Join", l.Join(a, api.Params{Weight: 7}), api.OK)
	d.were(t, "Join 0 1 7 0")
	l.Replay(4, true)
	d.were(t)
	is(t, "Join", l.Join(b, api.Params{Weight: 2, Class: 9}), api.OK)
	is(t, "Join again", l.Join(b, api.Params{Weight: 3}), api.ErrHandle)
	d.were(t, "Join 1 1 2 4", "Join 1 1 3 4")
	for _, p := range []api.Packet{pk(c, 1, 1, 4), pk(a, 0, 1, 4), pk(a, 21, 1, 4), pk(a, 1, 1, 3), pk(a, 1, 1, 5)} {
		l.Offer(p)
	}
	d.were(t)
	offers(t, l, b, 10, 1)
	d.were(t, "Plan 1 10 1 4 0", "Admit 1 10 1 4")
	l.Offer(pk(b, 10, 1, 4))
	d.were(t, "Plan 1 10 1 4 0")
	offers(t, l, b, 12, 2)
	offers(t, l, b, 8, 3)
	d.were(t, "Plan 1 12 2 4 0", "Admit 1 12 2 4", "Plan 1 8 3 4 0", "Admit 1 8 3 4")
	l.Offer(pk(b, 2, 4, 4))
	d.were(t, "Plan 1 2 4 4 2")
	offers(t, l, a, 9, 4, 3, 2)
	d.were(t, "Plan 0 9 4 4 9", "Evict 3", "Evict 2", "Admit 0 9 4 4")
	l.Replay(4, false)
	d.were(t)
	l.Replay(4, true)
	l.Replay(4, true)
	d.were(t, "Next 4")
	l.Replay(13, false)
	d.were(t)
	l.Replay(30, false)
	d.were(t, "Next 13")
	l.Replay(50, true)
	d.were(t)
	l.Weight()
	l.Leave(c)
	l.Leave(b)
	d.were(t, "Weight 50", "Leave 2 1 50", "Leave 1 1 50")
	l.Bytes()
	l.Len()
	l.Time()
	l.Now()
	l.Due()
	l.Replay(60, true)
	d.were(t)
	offers(t, l, a, 5, 5)
	l.Replay(62, false) // it begins at 60
	d.were(t, "Plan 0 5 5 60 0", "Admit 0 5 5 60", "Next 60")
}

// 17.8, 17.9: the time never goes back, and stops at MaxTime.
func TestTime(t *testing.T) {
	l := over(t, disc.NewLine())
	for _, x := range []struct{ t, time int }{
		{math.MinInt, 0}, {-1, 0}, {0, 0}, {7, 7}, {6, 7}, {-1, 7}, {8, 8}, {1<<62 - 1, 1<<62 - 1}, {1 << 62, 1 << 62}, {1<<62 - 1, 1 << 62}, {1<<62 + 1, 1 << 62}, {math.MaxInt, 1 << 62}, {0, 1 << 62},
	} {
		replays(t, l, x.t, x.t%2 == 0, nil)
		if l.Time() != x.time {
			t.Fatalf("Time behind %d: %d, want %d", x.t, l.Time(), x.time)
		}
	}
	offers(t, l, a, 20, 1)
	replays(t, l, math.MaxInt, false, nil)
	replays(t, l, math.MaxInt, true, []int{1})
	at, ok := l.Due()
	reads(t, "Due", at, ok, 1<<62+20, true)
	replays(t, l, math.MaxInt, true, nil)
	holds(t, l, 20, 0)
	fast, _ := link.Over(small, disc.NewLine())
	fast.Join(a, api.Params{})
	replays(t, fast, math.MaxInt, false, nil)
	offers(t, fast, a, 1, 1)
}

// 17.9: the tick of the call itself is the Poll's alone; what has its stamp there leaves either way.
func TestPollsAndOthers(t *testing.T) {
	for _, poll := range []bool{false, true} {
		l := over(t, disc.NewLine())
		l.Replay(3, false)
		offers(t, l, a, 4, 1)
		offers(t, l, b, 5, 2)
		offers(t, l, c, 6, 3)
		var first, second, third []int
		if poll {
			first, second, third = []int{1}, []int{2}, []int{3}
		}
		replays(t, l, 3, poll, first)
		replays(t, l, 3, poll, nil)
		if !poll {
			first = []int{1}
			replays(t, l, 4, poll, first)
		}
		replays(t, l, 6, poll, nil)
		replays(t, l, 7, poll, second, stay{1, 3, 7})
		replays(t, l, 7, false, nil)
		if !poll {
			replays(t, l, 8, poll, []int{2})
		}
		replays(t, l, 12, poll, third, stay{2, 7, 12})
		if !poll {
			third = []int{3}
		} else {
			third = nil
		}
		replays(t, l, 18, poll, third, stay{3, 12, 18})
		replays(t, l, 100, poll, nil)
	}
}

// 17.9: what comes at one tick is all there when that tick's packet is chosen, but behind a Poll of that tick.
func TestChoosesLate(t *testing.T) {
	for poll, want := range map[bool][]int{false: {2, 1}, true: {1, 2}} {
		l, e := link.New(small)
		is(t, "New", e, api.OK)
		l.Join(a, api.Params{Class: 0})
		l.Join(b, api.Params{Class: 3})
		l.Replay(9, poll)
		offers(t, l, b, 5, 1)
		began, _ := l.Replay(9, poll)
		offers(t, l, a, 5, 2)
		rest, left := l.Replay(40, false)
		numbers(t, "began", append(began, rest...), api.OK, want...)
		if len(left) != 2 || left[0].Began != 9 || left[1].Began != 14 {
			t.Fatalf("left: %v", left)
		}
	}
}

// 17.9: a packet begins when the link was left, or when the queue became other than empty, if that is later, also if it was empty for a while.
func TestBegins(t *testing.T) {
	l := over(t, disc.NewLine())
	offers(t, l, a, 5, 1)
	replays(t, l, 2, true, []int{1})
	offers(t, l, a, 6, 2)
	got, e := l.Leave(a)
	numbers(t, "Leave", got, e, 2)
	replays(t, l, 4, true, nil)
	offers(t, l, b, 7, 3)
	replays(t, l, 11, true, []int{3}, stay{1, 0, 5}) // ready at 4, free at 5
	replays(t, l, 20, true, nil, stay{3, 5, 12})
	offers(t, l, b, 1, 4)
	offers(t, l, c, 1, 5)
	got, e = l.Leave(b)
	numbers(t, "Leave", got, e, 4)
	replays(t, l, 50, false, []int{5}, stay{5, 20, 21})
	offers(t, l, c, 20, 6)
	replays(t, l, 65, true, []int{6})
	offers(t, l, c, 3, 7)
	replays(t, l, 69, false, nil)
	offers(t, l, c, 4, 8)
	replays(t, l, 100, false, []int{7, 8}, stay{6, 50, 70}, stay{7, 70, 73}, stay{8, 73, 77})
}

// 17.10: whoever leaves while its packet is on the link; that one leaves as any.
func TestLeavesWhileItSends(t *testing.T) {
	l := over(t, disc.NewLine())
	offers(t, l, a, 10, 1)
	offers(t, l, a, 5, 2)
	offers(t, l, b, 5, 3)
	replays(t, l, 1, true, []int{1})
	got, e := l.Leave(a)
	same(t, "Leave", got, []api.Packet{pk(a, 5, 2, 0)}, e, api.OK)
	holds(t, l, 15, 1)
	got, e = l.Leave(a)
	refuses(t, "Leave again", got, e, api.ErrHandle)
	got, e = l.Leave(api.Handle{Slot: 1, Gen: 2})
	refuses(t, "Leave of another generation", got, e, api.ErrHandle)
	got, e = l.Offer(pk(a, 1, 4, 1))
	refuses(t, "Offer", got, e, api.ErrHandle)
	is(t, "Join of a slot that is in use", l.Join(api.Handle{Slot: 1, Gen: 2}, api.Params{}), api.ErrHandle)
	for _, h := range []api.Handle{a, {Slot: 1, Gen: 2}} {
		for _, size := range []int{0, 1, 21} {
			got, e = l.Offer(pk(h, size, 4, 1))
			refuses(t, "Offer of one that left, or was refused", got, e, api.ErrHandle)
		}
	}
	is(t, "Join", l.Join(api.Handle{Slot: 0, Gen: 2}, api.Params{Weight: 4}), api.OK)
	got, e = l.Offer(pk(a, 1, 4, 1))
	refuses(t, "Offer", got, e, api.ErrHandle)
	offers(t, l, api.Handle{Slot: 0, Gen: 2}, 15, 4)
	now, ok := l.Now()
	reads(t, "Now", now, ok, api.Departure{Packet: pk(a, 10, 1, 0), Left: 10}, true)
	replays(t, l, 40, true, []int{3, 4}, stay{1, 0, 10}, stay{3, 10, 15}, stay{4, 15, 30})
}

// 17.11: the errors in their order; none of them leaves anything.
func TestWhatMayNotCome(t *testing.T) {
	l := over(t, disc.NewLine())
	l.Replay(9, true)
	offers(t, l, a, 20, 5)
	offers(t, l, b, 10, 7)
	stranger := api.Handle{Slot: 0, Gen: 2}
	for p, want := range map[api.Packet]api.Errno{
		pk(stranger, 0, 7, 8):                        api.ErrHandle,
		pk(stranger, 1, 8, 9):                        api.ErrHandle,
		pk(api.Handle{}, 1, 8, 9):                    api.ErrHandle,
		pk(a, 0, 7, 8):                               api.ErrSize,
		pk(a, -1, 8, 9):                              api.ErrSize,
		pk(a, 21, 7, 8):                              api.ErrSize,
		pk(a, math.MaxInt, 8, 9):                     api.ErrSize,
		pk(a, math.MinInt, 8, 9):                     api.ErrSize,
		pk(a, 20, 7, 8):                              api.ErrArg,
		pk(a, 1, 8, 8):                               api.ErrArg,
		pk(a, 1, 8, 10):                              api.ErrArg,
		pk(a, 1, 8, -1):                              api.ErrArg,
		pk(a, 1, 8, math.MaxInt):                     api.ErrArg,
		pk(a, 1, 7, 9):                               api.ErrArg,
		pk(a, 20, 5, 9):                              api.ErrArg,
		pk(c, 20, 0, 9):                              api.ErrArg,
		pk(c, 20, math.MinInt, 9):                    api.ErrArg,
		pk(a, 1, 8, 9):                               api.ErrRefused,
		pk(b, 20, math.MaxInt, 9):                    api.ErrRefused,
		{Flow: c, Size: 20, Seq: 8, Came: 9, ID: -4}: api.ErrRefused,
	} {
		got, e := l.Offer(p)
		refuses(t, "Offer", got, e, want)
		holds(t, l, 30, 2)
	}
	replays(t, l, 29, false, []int{5}, stay{5, 9, 29})
	offers(t, l, a, 20, 8)
}

// 17.11, DOC: to the last byte of the room; the one on the link counts whole till its stamp, and is never a victim.
func TestRoom(t *testing.T) {
	l, e := link.New(small)
	is(t, "New", e, api.OK)
	l.Join(a, api.Params{})
	l.Join(b, api.Params{Class: 2})
	offers(t, l, b, 20, 1)
	replays(t, l, 19, true, []int{1})
	offers(t, l, b, 10, 2)
	holds(t, l, 30, 1)
	got, e := l.Offer(pk(a, 11, 3, 19))
	refuses(t, "Offer of more than can go", got, e, api.ErrRefused)
	holds(t, l, 30, 1)
	offers(t, l, a, 4, 3, 2)
	holds(t, l, 24, 1)
	offers(t, l, a, 6, 4)
	got, e = l.Offer(pk(a, 1, 5, 19))
	refuses(t, "Offer", got, e, api.ErrRefused)
	replays(t, l, 20, false, nil, stay{1, 0, 20})
	offers(t, l, b, 20, 5)
	offers(t, l, a, 20, 6, 5)
	holds(t, l, 30, 3)
	replays(t, l, 100, true, []int{3, 4, 6}, stay{3, 20, 24}, stay{4, 24, 30}, stay{6, 30, 50})
	holds(t, l, 0, 0)
}

// 17.11: victims in the order in which they were found, several for one.
func TestVictims(t *testing.T) {
	l, e := link.New(small)
	is(t, "New", e, api.OK)
	for i, h := range []api.Handle{a, b, c} {
		is(t, "Join", l.Join(h, api.Params{Class: 2 * i}), api.OK)
	}
	offers(t, l, c, 3, 1)
	offers(t, l, b, 9, 2)
	offers(t, l, c, 6, 3)
	offers(t, l, b, 12, 4)
	offers(t, l, a, 10, 5, 3, 1, 4)
	holds(t, l, 19, 2)
	offers(t, l, c, 11, 6)
	got, e := l.Offer(pk(c, 1, 7, 0))
	refuses(t, "Offer", got, e, api.ErrRefused)
	offers(t, l, b, 1, 7, 6)
	replays(t, l, 60, true, []int{5, 2, 7}, stay{5, 0, 10}, stay{2, 10, 19}, stay{7, 19, 20})
}

// 17.12: weights that count at the link's time: a fluid has what left.
func TestWeight(t *testing.T) {
	c := small
	c.Kind, c.Age = api.WFQ, 0
	l, e := link.New(c)
	is(t, "New", e, api.OK)
	is(t, "Join", l.Join(a, api.Params{Weight: 3}), api.OK)
	is(t, "Join", l.Join(b, api.Params{Weight: 40}), api.OK)
	offers(t, l, a, 10, 1)
	l.Leave(a)
	for at, want := range []int{43, 43, 43, 43, 43, 43, 43, 43, 43, 43, 40, 40} {
		l.Replay(at, at%2 == 0)
		if l.Weight() != want {
			t.Fatalf("Weight at %d: %d, want %d", at, l.Weight(), want)
		}
	}
}

// idle is a discipline that says that something is queued, and tells nothing.
type idle struct{ disc.Discipline }

func (idle) Len() int { return 1 }

// 17.17: a replay ends also over a discipline that does not do what chapter 13 says.
func TestOverWhatever(t *testing.T) {
	l, e := link.Over(small, idle{disc.NewLine()})
	is(t, "Over", e, api.OK)
	replays(t, l, 9, true, nil)
	now, ok := l.Now()
	reads(t, "Now", now, ok, api.Departure{}, false)
}

// 17.12, 17.13: what is told of the link while it sends, and while it waits.
func TestNowAndDue(t *testing.T) {
	l := over(t, disc.NewLine())
	looks := func(now api.Departure, busy bool, at int, ok bool) {
		t.Helper()
		gotNow, gotBusy := l.Now()
		reads(t, "Now", gotNow, gotBusy, now, busy)
		gotAt, gotOk := l.Due()
		reads(t, "Due", gotAt, gotOk, at, ok)
	}
	none := api.Departure{}
	l.Replay(6, true)
	p := api.Packet{Flow: a, ID: -3, Size: 8, Seq: 2, Came: 6}
	got, e := l.Offer(p)
	numbers(t, "Offer", got, e)
	looks(none, false, 6, true)
	l.Replay(6, true)
	looks(api.Departure{Packet: p, Began: 6, Left: 14}, true, 14, true)
	offers(t, l, b, 2, 3)
	looks(api.Departure{Packet: p, Began: 6, Left: 14}, true, 14, true)
	l.Replay(14, false)
	looks(none, false, 14, true)
	l.Replay(15, false)
	looks(api.Departure{Packet: pk(b, 2, 3, 6), Began: 14, Left: 16}, true, 16, true)
	l.Replay(16, false)
	looks(none, false, 0, false)
	offers(t, l, b, 2, 4)
	l.Leave(b)
	looks(none, false, 0, false)
}
