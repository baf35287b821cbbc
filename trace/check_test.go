package trace_test

import (
	"reflect"
	"strings"
	"testing"

	"millrace/api"
	"millrace/trace"
)

// checks is what Check has to tell of a text.
func checks(t *testing.T, s string, want api.Errno, line int) {
	t.Helper()
	if e, n := trace.Check(s); e != want || n != line {
		t.Errorf("Check of %.400q: %v, line %d, want %v, line %d", s, e, n, want, line)
	}
}

// 20.4: the chapter's text, and its wrong ones.
func TestCheckExample(t *testing.T) {
	checks(t, example, api.OK, 0)
	checks(t, strings.Replace(example, "seq 1", "seq 2", 1), api.ErrTold, 7)
	checks(t, strings.TrimSuffix(example, "error 60\n"), api.ErrLine, 13)
	checks(t, strings.Replace(example, "millrace", "0 open", 1), api.ErrBegin, 1)
	checks(t, strings.Replace(example, "10 send", "010 send", 1), api.ErrWord, 6)
	checks(t, "", api.ErrBegin, 1)
	checks(t, head, api.OK, 0)
	checks(t, strings.Repeat("\n", 65537), api.ErrLong, 0)
	checks(t, strings.Repeat("x", api.MaxText+1), api.ErrLong, 0)
}

// 20.4: what is wrong with the set-up is told of the first line, ahead of any answer, but behind whatever Parse tells.
func TestCheckSetups(t *testing.T) {
	rest := strings.TrimPrefix(example, head)
	for _, x := range []struct {
		line string
		e    api.Errno
	}{
		{"age 49 50 10 2 10", api.ErrRoom}, {"age -3 50 10 2 10", api.ErrRoom}, {"age 1073741825 50 10 2 10", api.ErrRoom},
		{"age 100 0 10 2 10", api.ErrMost}, {"age 100 50 0 2 10", api.ErrWeight}, {"age 100 50 4097 2 10", api.ErrWeight},
		{"age 100 50 10 0 10", api.ErrFlows}, {"age 100 50 10 257 10", api.ErrFlows}, {"age 100 50 10 2 -1", api.ErrClass},
		{"wfq 100 50 10 2 10", api.ErrClass}, {"wfq 100 50 10 2 0 tree/0/0/0 drr/0/1/0", api.ErrArg}, {"tree 100 50 10 2 0", api.ErrArg},
		{"tree 100 50 10 2 0 tree/0/0/0", api.ErrArg}, {"tree 100 50 10 2 0 tree/0/0/0 drr/0/0/0", api.ErrQuantum}, {"tree 100 50 10 2 0 drr/0/0/0", api.ErrKind},
		{"tree 100 50 10 2 0 tree/0/0/0" + strings.Repeat(" drr/0/1/0", 32), api.ErrArg},
	} {
		s := "millrace " + x.line + "\n"
		checks(t, s, x.e, 1)
		checks(t, s+rest, x.e, 1)
		checks(t, s+strings.Replace(rest, "seq 1", "seq 2", 1), x.e, 1)
		checks(t, s+strings.Replace(rest, "seq 1", "seq 01", 1), api.ErrWord, 7)
		checks(t, s+"0 poll\n", api.ErrLine, 3)
	}
	checks(t, "millrace tree 100 50 10 2 0 tree/0/0/0"+strings.Repeat(" drr/0/1/0", 31)+"\n", api.OK, 0)
}

// 20.4: any part of an answer that is another is found, in the first line that has one.
func TestCheckFindsWhatDiffers(t *testing.T) {
	n := noise(2004)
	for _, kind := range kinds {
		parts := map[string]int{}
		for range 5 {
			c := anyConf(&n, kind)
			x := recorded(t, c, anyScript(&n, c, 50))
			for i := range x.Told {
				was := x.Told[i]
				for _, y := range others(was, x.Calls[i].Kind) {
					parts[y.part]++
					x.Told[i] = y.told
					checks(t, printed(t, x), api.ErrTold, 2*i+3)
					// A later one that differs too is not told of, whatever its line has.
					if i+1 < len(x.Told) && n.below(4) == 0 {
						later := i + 1 + n.below(len(x.Told)-i-1)
						kept := x.Told[later]
						x.Told[later] = api.Told{Err: 12345}
						checks(t, printed(t, x), api.ErrTold, 2*i+3)
						x.Told[later] = kept
					}
				}
				x.Told[i] = was
			}
			checks(t, printed(t, x), api.OK, 0)
			if t.Failed() {
				return
			}
		}
		for _, part := range []string{
			"error", "none", "Flow.Slot", "Flow.Gen", "Seq", "Books.Offered.Packets", "Books.Sending.Bytes", "Books.Queued.Bytes",
			"Packets -1", "Packets +1", "Packets.ID", "Packets.Came", "Left -1", "Left +1", "Left.Packet.Flow.Gen", "Left.Packet.Seq", "Left.Began", "Left.Left",
		} {
			if parts[part] == 0 {
				t.Errorf("%s of the kind %d was never turned", part, kind)
			}
		}
	}
}

// other is an answer that is not the one that was told, by the part of it that was turned.
type other struct {
	part string
	told api.Told
}

// others are answers that a call of a kind may be told, each another than x in one part.
func others(x api.Told, kind int) []other {
	l := []other{{"error", api.Told{Err: x.Err + 1}}}
	if x.Err != api.OK {
		return append(l, other{"none", api.Told{}})
	}
	turn := func(part string, f func(y *api.Told)) {
		y := x
		y.Packets = append([]api.Packet(nil), x.Packets...)
		y.Left = append([]api.Departure(nil), x.Left...)
		f(&y)
		l = append(l, other{part, y})
	}
	for name := range turned(api.Told{}, 1) {
		if name != "Packets" && name != "Left" && hasPrefix(namedTold[kind], name) {
			turn(name, func(y *api.Told) { bump(reflect.ValueOf(y).Elem(), name) })
		}
	}
	if hasPrefix(namedTold[kind], "Packets") {
		turn("Packets +1", func(y *api.Told) { y.Packets = append(y.Packets, api.Packet{}) })
	}
	if hasPrefix(namedTold[kind], "Left") {
		turn("Left +1", func(y *api.Told) { y.Left = append(y.Left, api.Departure{}) })
	}
	if end := len(x.Packets) - 1; end >= 0 {
		turn("Packets -1", func(y *api.Told) { y.Packets = y.Packets[:end] })
		for name := range turned(api.Packet{}, 1) {
			turn("Packets."+name, func(y *api.Told) { bump(reflect.ValueOf(&y.Packets[end]).Elem(), name) })
		}
	}
	if end := len(x.Left) - 1; end >= 0 {
		turn("Left -1", func(y *api.Told) { y.Left = y.Left[:end] })
		for name := range turned(api.Departure{}, 1) {
			turn("Left."+name, func(y *api.Told) { bump(reflect.ValueOf(&y.Left[end]).Elem(), name) })
		}
	}
	return l
}

// bump makes the field of that name another.
func bump(v reflect.Value, name string) {
	fieldsOf(v, "", func(s string, f reflect.Value) {
		if s == name {
			f.SetInt(f.Int() ^ 1)
		}
	})
}

// 20.4: evicted packets in another order are another answer.
func TestCheckOrder(t *testing.T) {
	c := api.Conf{Kind: api.EDF, Room: 30, Most: 30, Cap: 10, Flows: 1}
	p := api.Params{Weight: 1, Span: 5, Burst: 1000, Rate: 100, Per: 1}
	x := recorded(t, c, []api.Call{
		{Kind: api.COpen, Params: p},
		{Kind: api.CSend, Reading: 10, Flow: first, ID: 1, Size: 10},
		{Kind: api.CSend, Reading: 10, Flow: first, ID: 2, Size: 10},
		{Kind: api.CClose, Reading: 10, Flow: first},
	})
	checks(t, printed(t, x), api.OK, 0)
	l := x.Told[3].Packets
	l[0], l[1] = l[1], l[0]
	checks(t, printed(t, x), api.ErrTold, 9)
}
