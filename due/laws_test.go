package due_test

import (
	"fmt"
	"maps"
	"slices"
	"testing"

	"millrace/api"
	"millrace/due"
)

// most is the longest packet that comes to the links below.
const most = 12

// link sends what a discipline tells, a byte a tick, ahead of the next one, and keeps at most so many bytes.
type link struct {
	t     *testing.T
	n     *noise
	d     queue
	room  int
	flows []api.Params // by slots; all are open
	now   int
	free  int // when what is on the link has been sent
	kept  int // bytes, queued and on the link
	on    int // bytes that are on the link
	came  []api.Packet
	left  map[int]int  // when, by number
	lost  map[int]bool // those that were evicted
}

func linkOf(t *testing.T, n *noise, d queue, room int, flows []api.Params) *link {
	t.Helper()
	opened(t, d, flows...)
	return &link{t: t, n: n, d: d, room: room, flows: flows, left: map[int]int{}, lost: map[int]bool{}}
}

// handsIn lets a packet come at the tick that it is, if there is room for it.
func (l *link) handsIn(slot, size int) {
	l.t.Helper()
	p := pk(api.Handle{Slot: slot, Gen: 1}, size, len(l.came)+1, l.now)
	victims, e := l.d.Plan(p, l.kept+size-l.room)
	if e == api.ErrRefused {
		return
	}
	is(l.t, "Plan", e, api.OK)
	for _, v := range victims {
		is(l.t, "Evict", l.d.Evict(v), api.OK)
		l.kept -= v.Size
		l.lost[v.Seq] = true
	}
	is(l.t, "Admit", l.d.Admit(p), api.OK)
	l.came = append(l.came, p)
	l.kept += size
}

// leaves lets go what has been sent. What comes at that tick has its room.
func (l *link) leaves() {
	if l.free <= l.now {
		l.kept -= l.on
		l.on = 0
	}
}

// sends lets the next packet begin, if the link is free.
func (l *link) sends() {
	l.t.Helper()
	if l.free > l.now {
		return
	}
	p, ok := l.d.Next(l.now)
	if ok != (l.kept > 0) {
		l.t.Fatalf("Next: %v %v, with %d bytes queued", p, ok, l.kept)
	}
	if ok {
		l.on, l.free = p.Size, l.now+p.Size
		l.left[p.Seq] = l.free
	}
}

// run lets packets come for so many ticks, more of them the higher the pace is, and sends till all are sent.
func (l *link) run(ticks, pace int) {
	l.t.Helper()
	for ; l.now < ticks || l.d.Len() > 0; l.now++ {
		l.leaves()
		for l.now < ticks && l.n.below(100) < pace {
			l.handsIn(l.n.below(len(l.flows)), 1+l.n.below(most))
		}
		l.sends()
	}
}

// fits is whether what came leaves so much time that a packet is to be in time, as W4 words it.
func fits(came []api.Packet, deadline func(api.Packet) int, p api.Packet) bool {
	d := deadline(p)
	for s := d - 1; s >= 0; s-- {
		bytes := 0
		for _, q := range came {
			if q.Came >= s && deadline(q) <= d {
				bytes += q.Size
			}
		}
		if bytes > 0 && bytes+most > d-s {
			return false
		}
	}
	return true
}

// 16.7, W4: what can be in time is.
func TestInTime(t *testing.T) {
	n := noise(1674)
	held := 0
	for round := range 200 {
		var flows []api.Params
		for range 1 + n.below(5) {
			flows = append(flows, api.Params{Span: 1 + n.below(150)})
		}
		room := 1 << 30
		if round%4 == 0 {
			room = 20 + n.below(100)
		}
		l := linkOf(t, &n, due.NewEDF(), room, flows)
		l.run(200, 3+n.below(25))
		deadline := func(p api.Packet) int { return p.Came + flows[p.Flow.Slot].Span }
		for _, p := range l.came {
			if l.lost[p.Seq] || !fits(l.came, deadline, p) {
				continue
			}
			held++
			if l.left[p.Seq] > deadline(p) {
				t.Fatalf("%v left at %d, its deadline is %d", p, l.left[p.Seq], deadline(p))
			}
		}
	}
	if held < 500 {
		t.Errorf("only %d packets could be in time for sure", held)
	}
}

// 16.7, W5: nothing waits longer than its class and the buffer's room let it.
func TestNobodyWaitsLong(t *testing.T) {
	n := noise(1675)
	late := 0
	for range 200 {
		step, room := n.below(60), most+n.below(200)
		var flows []api.Params
		for range 1 + n.below(5) {
			flows = append(flows, api.Params{Class: n.below(16)})
		}
		l := linkOf(t, &n, due.NewAge(step), room, flows)
		l.run(600, 5+n.below(70))
		for _, p := range l.came {
			class := flows[p.Flow.Slot].Class
			if l.lost[p.Seq] {
				continue
			}
			if l.left[p.Seq] > p.Came+class*step+room {
				t.Fatalf("%v of the class %d left at %d, the step being %d and the room %d", p, class, l.left[p.Seq], step, room)
			}
			if l.left[p.Seq] > p.Came+room {
				late++
			}
		}
	}
	if late < 500 {
		t.Errorf("only %d packets waited for their class", late)
	}
}

// anyParams is often one with a small span and class.
func anyParams(n *noise) api.Params {
	if n.below(6) == 0 {
		return api.Params{Weight: n.below(9), Span: one(n, odd), Class: one(n, odd)}
	}
	return api.Params{Weight: n.below(9), Span: n.below(40), Class: n.below(6)}
}

// filled lets so many packets of the flows A, B and C come, some having been sent.
func filled(t *testing.T, n *noise, d queue, many int) {
	t.Helper()
	opened(t, d, anyParams(n), anyParams(n), anyParams(n))
	came := 0
	for seq := 1; seq <= many; seq++ {
		came += n.below(2) * n.below(12)
		fed(t, d, pk(one(n, []api.Handle{a, b, c}), 1+n.below(9), seq, came))
		if n.below(4) == 0 {
			d.Next(came)
		}
	}
}

// tickOf is the tick by which an admitted packet goes.
func tickOf(t *testing.T, d queue, p api.Packet) int {
	t.Helper()
	at, e := asked(d, p)
	is(t, "the tick of a packet", e, api.OK)
	return at
}

// eachKind makes random uses of each kind.
func eachKind(t *testing.T, seed int, rounds int, use func(t *testing.T, n *noise, d queue)) {
	t.Helper()
	n := noise(seed)
	for _, k := range kinds {
		t.Run(k.name, func(t *testing.T) {
			for range rounds {
				use(t, &n, k.make())
			}
		})
	}
}

// 16.8: what Next tells has ticks that do not fall, what Plan tells has such as do not rise, and First tells those of the one.
func TestTicksDoNotTurn(t *testing.T) {
	eachKind(t, 168, 60, func(t *testing.T, n *noise, d queue) {
		filled(t, n, d, 30)
		p := pk(one(n, []api.Handle{a, b, c}), 1, 31, 1000)
		for need := range 60 {
			l, _ := d.Plan(p, need)
			for i := 1; i < len(l); i++ {
				if tickOf(t, d, l[i]) > tickOf(t, d, l[i-1]) {
					t.Fatalf("Plan: %v", l)
				}
			}
		}
		last := -1
		for d.Len() > 0 {
			at, ok := d.First()
			p, _ := d.Next(n.below(99))
			if !ok || at != tickOf(t, d, p) || at < last {
				t.Fatalf("First: %d %v of %v behind %d", at, ok, p, last)
			}
			last = at
			if n.below(5) == 0 {
				worst, _ := d.Worst(0)
				d.Evict(worst)
			}
		}
	})
}

// story is what a random use answered, the ticks of packets counted from a tick on.
func story(n noise, d queue, from int) []string {
	var told []string
	tell := func(what string, v ...any) { told = append(told, fmt.Sprint(what, v)) }
	packets := func(l ...api.Packet) []api.Packet {
		l = slices.Clone(l)
		for i := range l {
			if l[i].Seq > 0 {
				l[i].Came -= from
			}
		}
		return l
	}
	came := from
	for seq := 1; seq < 120; seq++ {
		came += n.below(2) * n.below(9)
		h := one(&n, []api.Handle{a, b, c})
		switch p := pk(h, 1+n.below(9), seq, came); n.below(8) {
		case 0:
			tell("Join", d.Join(h, anyParams(&n), came))
		case 1:
			if n.below(5) == 0 {
				l, e := d.Leave(h, came)
				tell("Leave", packets(l...), e)
			}
		case 2:
			x, ok := d.Next(came)
			tell("Next", packets(x), ok)
		case 3:
			l, e := d.Plan(p, n.below(40))
			tell("Plan", packets(l...), e)
		case 4:
			x, ok := d.Worst(n.below(4))
			tell("Worst", packets(x), ok, d.Evict(x))
		default:
			at, e := asked(d, p)
			if e == api.OK {
				at -= from
			}
			tell("Admit", at, e, d.Admit(p))
		}
		at, ok := d.First()
		if ok {
			at -= from
		}
		tell("First", at, ok, d.Len(), d.Weight(came))
		if q, ok := d.(*due.EDF); ok {
			tell("Late", q.Late(came+n.below(60)-10))
		}
	}
	return told
}

// 16.9: all ticks moved by one number, the answers are the same, moved by it.
func TestMovedTogether(t *testing.T) {
	n := noise(169)
	for _, k := range kinds {
		t.Run(k.name, func(t *testing.T) {
			for range 20 {
				seed := noise(n.word())
				want := story(seed, k.make(), 0)
				for _, from := range []int{1, 2, 1 << 40, 1<<62 - 2000, n.below(1 << 61)} {
					if got := story(seed, k.make(), from); !slices.Equal(got, want) {
						t.Fatalf("from the tick %d:\n%q\nfrom 0:\n%q", from, got, want)
					}
				}
			}
		})
	}
}

// 16.6, 13.13: each comes out once, by whatever call, and of a flow the numbers that Next tells rise.
func TestEachComesOutOnce(t *testing.T) {
	eachKind(t, 1613, 40, func(t *testing.T, n *noise, d queue) {
		opened(t, d, anyParams(n), anyParams(n), anyParams(n))
		const many = 60
		for seq := 1; seq <= many; seq++ {
			fed(t, d, pk(one(n, []api.Handle{a, b, c}), 1, seq, 3*seq))
		}
		out, last := map[int]int{}, map[api.Handle]int{}
		for d.Len() > 0 {
			switch n.below(20) {
			case 0:
				l, _ := d.Leave(one(n, []api.Handle{a, b, c}), 0)
				for _, p := range l {
					out[p.Seq]++
				}
			case 1, 2, 3, 4, 5, 6:
				p, _ := d.Worst(0)
				is(t, "Evict", d.Evict(p), api.OK)
				out[p.Seq]++
			default:
				p, ok := d.Next(0)
				if !ok || p.Seq <= last[p.Flow] {
					t.Fatalf("Next: %v %v behind the number %d", p, ok, last[p.Flow])
				}
				last[p.Flow] = p.Seq
				out[p.Seq]++
			}
		}
		if len(out) != many || slices.Max(slices.Collect(maps.Values(out))) != 1 {
			t.Fatalf("came out: %v", out)
		}
	})
}

func sizes(l []api.Packet) int {
	sum := 0
	for _, p := range l {
		sum += p.Size
	}
	return sum
}

// 16.6, 13.14: what is told can be evicted in its order, is enough, and would not be without its last one; for more it goes on.
func TestPlansGoOn(t *testing.T) {
	eachKind(t, 1614, 40, func(t *testing.T, n *noise, d queue) {
		filled(t, n, d, n.below(30))
		p := pk(one(n, []api.Handle{a, b, c}), 1, 31, 400+n.below(50))
		var last []api.Packet
		need := 1
		for ; ; need++ {
			l, e := d.Plan(p, need)
			if e == api.ErrRefused {
				break
			}
			is(t, "Plan", e, api.OK)
			if len(l) < len(last) || !slices.Equal(l[:len(last)], last) {
				t.Fatalf("Plan for %d: %v behind %v", need, l, last)
			}
			if sum := sizes(l); sum < need || sum-l[len(l)-1].Size >= need {
				t.Fatalf("Plan for %d: %v", need, l)
			}
			last = l
		}
		if sizes(last) != need-1 {
			t.Fatalf("refused for %d, with %v found", need, last)
		}
		for _, victim := range last {
			is(t, "Evict of what was told", d.Evict(victim), api.OK)
		}
		l, e := d.Plan(p, 1)
		refuses(t, "Plan behind all that was told", l, e, api.ErrRefused)
	})
}

// 16.10: whatever ints are given, each call ends.
func TestWhateverIsGiven(t *testing.T) {
	n := noise(1610)
	any := func() api.Packet {
		return api.Packet{Flow: api.Handle{Slot: one(&n, odd), Gen: one(&n, odd)}, ID: one(&n, odd), Size: one(&n, odd), Seq: one(&n, odd), Came: one(&n, odd)}
	}
	for range 300 {
		edf, age := due.NewEDF(), due.NewAge(one(&n, odd))
		for _, d := range []queue{edf, age} {
			for seq := range 60 {
				p, q := any(), any()
				q.Flow = p.Flow
				d.Join(p.Flow, api.Params{Weight: p.Seq, Class: p.ID, Span: p.Came}, one(&n, odd))
				asked(d, q)
				d.Plan(q, one(&n, odd))
				d.Admit(q)
				good := pk(p.Flow, one(&n, []int{1, 2, 65536}), seq+1, 0)
				d.Plan(good, one(&n, odd))
				d.Admit(good)
				edf.Late(one(&n, odd))
				d.Evict(any())
				worst, _ := d.Worst(one(&n, odd))
				d.Evict(worst)
				d.Peek(one(&n, odd))
				d.Weight(one(&n, odd))
				if n.below(4) == 0 {
					d.Next(one(&n, odd))
					d.Leave(q.Flow, one(&n, odd))
				}
				if _, ok := d.First(); ok != (d.Len() > 0) {
					t.Fatalf("First %v, Len %d", ok, d.Len())
				}
			}
		}
	}
}

// scribble writes over a list and the spare room behind it.
func scribble(l []api.Packet) {
	l = l[:cap(l)]
	for i := range l {
		l[i] = pk(b, -7, -7, -7)
	}
}

// 16.10: whoever writes into what was told changes nothing else.
func TestWhatIsToldIsNewMemory(t *testing.T) {
	eachKind(t, 16101, 20, func(t *testing.T, n *noise, d queue) {
		filled(t, n, d, 30)
		p := pk(a, 1, 31, 600)
		one, e := d.Plan(p, 9)
		two, _ := d.Plan(p, 9)
		want := slices.Clone(one)
		scribble(one)
		same(t, "Plan told ahead of a scribble", two, want, e, e)
		two, _ = d.Plan(p, 9)
		same(t, "Plan behind a scribble", two, want, e, e)
		left, _ := d.Leave(a, 0)
		other, _ := d.Leave(b, 0)
		wantOther := slices.Clone(other)
		is(t, "Join", d.Join(a, api.Params{}, 0), api.OK)
		fed(t, d, p)
		scribble(left)
		same(t, "Leave behind a scribble", other, wantOther, api.OK, api.OK)
		own, e := d.Leave(a, 0)
		numbers(t, "Leave of what came behind", own, e, 31)
	})
}

// Long queues of many flows are gone through in time.
func TestManyPackets(t *testing.T) {
	const flows, many = 256, 60000
	n := noise(60000)
	q := due.NewEDF()
	for slot := range flows {
		is(t, "Join", q.Join(api.Handle{Slot: slot, Gen: 1}, api.Params{Span: n.below(100000)}, 0), api.OK)
	}
	for seq := 1; seq <= many; seq++ {
		fed(t, q, pk(api.Handle{Slot: n.below(flows), Gen: 1}, 1, seq, seq))
		first, ok := q.First()
		if !ok || first < 0 {
			t.Fatalf("First: %d %v", first, ok)
		}
	}
	for _, at := range []int{0, 1000, 50000, 200000} {
		if late := q.Late(at); late < 0 || late > many || at == 200000 && late != many {
			t.Fatalf("Late(%d): %d", at, late)
		}
	}
	last := 0
	for q.Len() > 0 {
		first, _ := q.First()
		p, ok := q.Next(many)
		if !ok || first < last || first < p.Came {
			t.Fatalf("Next: %v %v, due at %d behind %d", p, ok, first, last)
		}
		last = first
	}
}
