package trace_test

import (
	"math"
	"reflect"
	"slices"
	"strings"
	"testing"

	"millrace/api"
	"millrace/trace"
)

// 20.5: Parse of a trace's text is the trace, of all that can be printed.
func TestThereAndBack(t *testing.T) {
	n := noise(2005)
	for i := range 1500 {
		x := anyTrace(&n, i%25)
		if y := parsed(t, printed(t, x)); plain(y) != plain(x) {
			t.Fatalf("%s\nwant\n%s", plain(y), plain(x))
		}
	}
}

// 20.5: Print of what was read is the text, of all texts that are read.
func TestBackAndThere(t *testing.T) {
	n := noise(2006)
	read := 0
	for i := range 12000 {
		s := mangled(&n, wantPrint(anyTrace(&n, i%8)))
		x, e, line := trace.Parse(s)
		if e != api.OK {
			continue
		}
		read++
		if line != 0 {
			t.Fatalf("line %d of %q", line, s)
		}
		if y := printed(t, x); y != s {
			t.Fatalf("%q is read as %q", s, y)
		}
	}
	if read < 500 {
		t.Fatalf("only %d were read", read)
	}
}

// 20.6, W10: what was recorded is taken, of all kinds of disciplines; so is what a scheduler told that was asked by hand.
func TestRecordedIsTaken(t *testing.T) {
	n := noise(2007)
	for _, kind := range kinds {
		for range 30 {
			c := anyConf(&n, kind)
			l := anyScript(&n, c, 1+n.below(150))
			x := recorded(t, c, l)
			checks(t, printed(t, x), api.OK, 0)
			checks(t, wantPrint(api.Trace{Conf: c, Calls: l, Told: byHand(t, c, l)}), api.OK, 0)
			if y := parsed(t, printed(t, x)); plain(y) != plain(x) {
				t.Fatalf("%s\nwant\n%s", plain(y), plain(x))
			}
		}
	}
}

// 20.6, W10: whatever Check takes is what Record gives, and what it does not take is not, of texts that were turned; the line is that of the first answer which differs.
func TestTakenIsRecorded(t *testing.T) {
	n := noise(2008)
	taken, refused := 0, 0
	for i := range 3000 {
		c := anyConf(&n, kinds[i%len(kinds)])
		s := printed(t, recorded(t, c, anyScript(&n, c, 3+n.below(20))))
		if i%3 == 0 {
			s = mangled(&n, s)
		} else {
			s = turnedNumber(&n, s)
		}
		e, line := trace.Check(s)
		x, parseErr, at := trace.Parse(s)
		if parseErr != api.OK {
			if e != parseErr || line != at {
				t.Fatalf("Check of %q: %v, line %d, but Parse %v, line %d", s, e, line, parseErr, at)
			}
			continue
		}
		y, recordErr := trace.Record(x.Conf, x.Calls)
		if recordErr != api.OK {
			if e != recordErr || line != 1 {
				t.Fatalf("Check of %q: %v, line %d, but Record %v", s, e, line, recordErr)
			}
			continue
		}
		want, lines := wantPrint(y), strings.SplitAfter(s, "\n")
		if s == want {
			taken++
			if e != api.OK || line != 0 {
				t.Fatalf("Check of %q: %v, line %d", s, e, line)
			}
			continue
		}
		refused++
		differs := 0
		for i, line := range strings.SplitAfter(want, "\n") {
			if lines[i] != line {
				differs = i + 1
				break
			}
		}
		if e != api.ErrTold || line != differs {
			t.Fatalf("Check of %q: %v, line %d, want line %d", s, e, line, differs)
		}
	}
	if taken < 200 || refused < 500 {
		t.Errorf("only %d were taken, and %d refused", taken, refused)
	}
}

// turnedNumber is a text with one of its numbers, somewhere, turned to another one.
func turnedNumber(n *noise, s string) string {
	at := numbersOf.FindAllStringIndex(s, -1)
	x := at[n.below(len(at))]
	return s[:x[0]] + wantInt(n.below(12)) + s[x[1]:]
}

// 20.7: whatever is handed in, a call ends and does not panic.
func TestNothingPanics(t *testing.T) {
	n := noise(2009)
	bytes := []byte(" \n/-0129af\xff\x00millrace wfq open poll")
	for range 20000 {
		var b []byte
		for range n.below(40) {
			b = append(b, one(&n, bytes...))
		}
		trace.Parse(string(b))
		trace.Check(string(b))
		trace.Parse(head + string(b))
		trace.Check(head + string(b))
	}
	for range 3000 {
		x := anyTrace(&n, 12)
		x.Conf.Kind = one(&n, -1, 0, 1, 2, 3, 4, 5, 6, 7)
		x.Calls[n.below(12)].Kind = one(&n, -1, 0, 1, 2, 3, 4, 5, 6, 7)
		x.Told = x.Told[:12-n.below(2)]
		trace.Print(x)
		trace.Record(x.Conf, x.Calls)
		c := anyConf(&n, one(&n, kinds...))
		if _, e := trace.Record(c, x.Calls); e != api.OK && e != api.ErrArg {
			t.Fatalf("Record of %+v: %v", x.Calls, e)
		}
	}
}

// 20.7: a script whose readings are at all ends of time, of each kind, ends.
func TestFarReadings(t *testing.T) {
	n := noise(2010)
	ends := []int{math.MinInt, -1, 0, 1, 1000, 1 << 32, 1 << 61, 1<<62 - 1, 1 << 62, 1<<62 + 1, math.MaxInt}
	for i := range 300 {
		c := anyConf(&n, kinds[i%len(kinds)])
		l := anyScript(&n, c, 60)
		for j := range l {
			if n.below(3) == 0 {
				l[j].Reading = ends[min(n.below(len(ends)), n.below(len(ends)))]
			}
		}
		x := recorded(t, c, l)
		checks(t, printed(t, x), api.OK, 0)
	}
}

// room is where a list lies, its spare room too.
type room struct{ from, to uintptr }

// roomsOf are the rooms of all lists of a trace.
func roomsOf(x api.Trace) []room {
	var l []room
	add := func(list any) {
		v := reflect.ValueOf(list)
		if v.Cap() > 0 {
			l = append(l, room{v.Pointer(), v.Pointer() + uintptr(v.Cap())*v.Type().Elem().Size()})
		}
	}
	add(x.Conf.Nodes)
	add(x.Calls)
	add(x.Told)
	for _, t := range x.Told {
		add(t.Packets)
		add(t.Left)
	}
	return l
}

// apart is that no two rooms share anything.
func apart(t *testing.T, l []room) {
	t.Helper()
	slices.SortFunc(l, func(a, b room) int { return int(a.from) - int(b.from) })
	for i := range l[1:] {
		if l[i].to > l[i+1].from {
			t.Fatal("two lists share memory")
		}
	}
}

// 20.7: what is told is new memory, its spare room too: no two lists share any, nor with what was handed in, nor with another answer.
func TestNewMemory(t *testing.T) {
	n := noise(2011)
	lists := 0
	for i := range 300 {
		c := anyConf(&n, kinds[i%len(kinds)])
		l := anyScript(&n, c, 100)
		x, y := recorded(t, c, l), recorded(t, c, l)
		s := printed(t, x)
		p, q := parsed(t, s), parsed(t, s)
		rooms := roomsOf(api.Trace{Conf: c, Calls: l})
		for _, z := range []api.Trace{x, y, p, q} {
			rooms = append(rooms, roomsOf(z)...)
		}
		lists += len(rooms)
		apart(t, rooms)
	}
	if lists < 10000 {
		t.Fatalf("only %d lists", lists)
	}
}

// 20.7: what is handed in is not changed, nor the spare room behind it, and it is not kept.
func TestHandedInIsLeft(t *testing.T) {
	n := noise(2012)
	for i := range 120 {
		c := anyConf(&n, kinds[i%len(kinds)])
		l := anyScript(&n, c, 60)
		nodes, calls := slices.Concat(c.Nodes, make([]api.Node, 3)), slices.Concat(l, make([]api.Call, 3))
		for i := range 3 {
			nodes[len(c.Nodes)+i].Age, calls[len(l)+i].ID = 77, 77
		}
		wantNodes, wantCalls := slices.Clone(nodes), plain(api.Trace{Calls: calls})
		c.Nodes = nodes[:len(c.Nodes)]
		x := recorded(t, c, calls[:len(l)])
		if !slices.Equal(nodes, wantNodes) || plain(api.Trace{Calls: calls}) != wantCalls {
			t.Fatal("Record changed what was handed in")
		}
		before := plain(x)
		clear(nodes)
		clear(calls)
		if plain(x) != before {
			t.Fatal("what was recorded changes with what was handed in")
		}
	}
}
