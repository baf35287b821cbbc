package trace_test

import (
	"math"
	"reflect"
	"strings"
	"testing"

	"millrace/api"
	"millrace/trace"
)

// 20.2: the chapter's text.
func TestPrintExample(t *testing.T) {
	if s := printed(t, recorded(t, small(), steps())); s != example {
		t.Fatalf("%s\nwant\n%s", s, example)
	}
}

// 20.2: a line of each call and of each answer, every field told apart.
func TestPrintLines(t *testing.T) {
	h := api.Handle{Slot: 1, Gen: 2}
	p := api.Packet{Flow: h, ID: 3, Size: 4, Seq: 5, Came: 6}
	q := api.Packet{Flow: api.Handle{Slot: -1, Gen: -2}, ID: -3, Size: -4, Seq: -5, Came: math.MinInt}
	books := api.Counters{
		Offered: api.Count{Packets: 1, Bytes: 2}, Refused: api.Count{Packets: 3, Bytes: 4}, Evicted: api.Count{Packets: 5, Bytes: 6},
		Departed: api.Count{Packets: 7, Bytes: 8}, Queued: api.Count{Packets: 9, Bytes: 10}, Sending: api.Count{Packets: 11, Bytes: -12},
	}
	for _, x := range []struct {
		call api.Call
		told api.Told
		want string
	}{
		{api.Call{Kind: api.COpen, Reading: 9, Params: api.Params{Weight: 1, Quantum: 2, Class: 3, Span: 4, Burst: 5, Rate: 1, Per: 6, Node: 7}}, api.Told{Flow: h}, "9 open 1 2 3 4 5 3ff0000000000000 6 7\nflow 1 2\n"},
		{api.Call{Kind: api.COpen}, api.Told{}, "0 open 0 0 0 0 0 0000000000000000 0 0\nflow 0 0\n"},
		{api.Call{Kind: api.COpen, Params: api.Params{Rate: math.Copysign(0, -1)}}, api.Told{Err: 1}, "0 open 0 0 0 0 0 8000000000000000 0 0\nerror 1\n"},
		{api.Call{Kind: api.COpen, Params: api.Params{Rate: api.Float(0xfff0123456789abc)}}, api.Told{Err: math.MaxInt}, "0 open 0 0 0 0 0 fff0123456789abc 0 0\nerror 9223372036854775807\n"},
		{api.Call{Kind: api.COpen, Params: api.Params{Rate: api.Float(0xdef)}}, api.Told{}, "0 open 0 0 0 0 0 0000000000000def 0 0\nflow 0 0\n"},
		{api.Call{Kind: api.CClose, Reading: -9, Flow: h}, api.Told{Books: books}, "-9 close 1 2\nbooks 1 2 3 4 5 6 7 8 9 10 11 -12\n"},
		{api.Call{Kind: api.CClose, Flow: h}, api.Told{Books: books, Packets: []api.Packet{p, q}}, "0 close 1 2\nbooks 1 2 3 4 5 6 7 8 9 10 11 -12 1/2/3/4/5/6 -1/-2/-3/-4/-5/-9223372036854775808\n"},
		{api.Call{Kind: api.CSend, Flow: h, ID: 3, Size: 4}, api.Told{Seq: 5}, "0 send 1 2 3 4\nseq 5\n"},
		{api.Call{Kind: api.CSend, Flow: h, ID: 3, Size: 4}, api.Told{Packets: []api.Packet{q, p}}, "0 send 1 2 3 4\nseq 0 -1/-2/-3/-4/-5/-9223372036854775808 1/2/3/4/5/6\n"},
		{api.Call{Kind: api.CSend, Flow: h, ID: 3, Size: 4}, api.Told{Err: 170, Packets: []api.Packet{}, Left: []api.Departure{}}, "0 send 1 2 3 4\nerror 170\n"},
		{api.Call{Kind: api.CPoll, Reading: math.MaxInt}, api.Told{Left: []api.Departure{}}, "9223372036854775807 poll\nleft\n"},
		{api.Call{Kind: api.CPoll}, api.Told{Left: []api.Departure{{Packet: p, Began: 7, Left: 8}, {}}}, "0 poll\nleft 1/2/3/4/5/6/7/8 0/0/0/0/0/0/0/0\n"},
		{api.Call{Kind: api.CStats, Flow: h}, api.Told{Books: books}, "0 stats 1 2\nbooks 1 2 3 4 5 6 7 8 9 10 11 -12\n"},
		{api.Call{Kind: api.CTotal}, api.Told{Books: books}, "0 total\nbooks 1 2 3 4 5 6 7 8 9 10 11 -12\n"},
	} {
		s := printed(t, api.Trace{Conf: small(), Calls: []api.Call{x.call}, Told: []api.Told{x.told}})
		if want := "millrace age 100 50 10 2 10\n" + x.want; s != want {
			t.Errorf("Print: %q, want %q", s, want)
		}
	}
}

// 20.2: the set-up's line, whatever it is: of each kind, with nodes under any of them, also where no scheduler can be set up so.
func TestPrintSetups(t *testing.T) {
	for i, name := range []string{"", "wfq", "drr", "edf", "age", "wf2", "tree"} {
		c := api.Conf{Kind: i, Room: -1, Most: math.MaxInt, Cap: 3, Flows: 0, Age: 5}
		if i == 0 {
			continue
		}
		line := "millrace " + name + " -1 9223372036854775807 3 0 5"
		if s := printed(t, api.Trace{Conf: c}); s != line+"\n" {
			t.Errorf("%q, want %q", s, line)
		}
		c.Nodes = []api.Node{{Kind: i, Parent: 7, Quantum: -8, Age: 9}, {Kind: api.TREE}}
		line += " " + name + "/7/-8/9 tree/0/0/0"
		if s := printed(t, api.Trace{Conf: c}); s != line+"\n" {
			t.Errorf("%q, want %q", s, line)
		}
	}
	many := api.Trace{Conf: small()}
	for range 5000 {
		many.Conf.Nodes = append(many.Conf.Nodes, api.Node{Kind: api.DRR})
	}
	if s, want := printed(t, many), "millrace age 100 50 10 2 10"+strings.Repeat(" drr/0/0/0", 5000)+"\n"; s != want {
		t.Errorf("5,000 nodes: %d bytes, want %d", len(s), len(want))
	}
}

// 20.2: the text is the model's, of traces of all sizes.
func TestPrintIsTheModels(t *testing.T) {
	n := noise(2002)
	for i := range 600 {
		x := anyTrace(&n, i%30)
		if s := printed(t, x); s != wantPrint(x) {
			t.Fatalf("%s\nwant\n%s", s, wantPrint(x))
		}
	}
}

// refuses is that a trace has no text.
func refuses(t *testing.T, x api.Trace, want api.Errno) {
	t.Helper()
	if s, e := trace.Print(x); s != "" || e != want {
		t.Errorf("Print of %.300s: %.100q %v, want %v", plain(x), s, e, want)
	}
}

// 20.2: kinds that are none, of the set-up, of a node, of a call.
func TestPrintRefusesKinds(t *testing.T) {
	for _, kind := range noKinds {
		x := recorded(t, small(), steps())
		x.Conf.Kind = kind
		refuses(t, x, api.ErrArg)
		for i := range 3 {
			x = recorded(t, small(), steps())
			x.Conf.Nodes = []api.Node{{Kind: api.TREE}, {Kind: api.DRR}, {Kind: api.EDF}}
			if i == 0 {
				printed(t, x)
			}
			x.Conf.Nodes[i].Kind = kind
			refuses(t, x, api.ErrArg)
		}
		for i := range x.Calls {
			x = recorded(t, small(), steps())
			x.Calls[i].Kind = kind
			refuses(t, x, api.ErrArg)
		}
		refuses(t, api.Trace{Conf: small(), Calls: []api.Call{{Kind: kind}}, Told: []api.Told{{Err: 1}}}, api.ErrArg)
		refuses(t, api.Trace{Conf: small(), Calls: []api.Call{{Kind: kind}}, Told: []api.Told{{}}}, api.ErrArg)
	}
	refuses(t, api.Trace{}, api.ErrArg)
}

// 20.2: as many answers as calls.
func TestPrintRefusesOtherNumbers(t *testing.T) {
	for i := range 6 {
		x := recorded(t, small(), steps())
		x.Told = x.Told[:i]
		refuses(t, x, api.ErrArg)
		x = recorded(t, small(), steps())
		x.Calls = x.Calls[:i]
		refuses(t, x, api.ErrArg)
	}
	x := recorded(t, small(), steps())
	x.Told = append(x.Told, api.Told{})
	refuses(t, x, api.ErrArg)
	refuses(t, api.Trace{Conf: small(), Told: make([]api.Told, 1)}, api.ErrArg)
}

// 20.2: every field of a call that its kind does not name must be 0, and every other one may be anything.
func TestPrintRefusesFieldsOfCalls(t *testing.T) {
	for _, kind := range asked {
		for name, l := range turned(api.Call{}, values...) {
			if name == "Kind" {
				continue
			}
			for _, x := range l {
				x.Kind = kind
				c := api.Trace{Conf: small(), Calls: []api.Call{x}, Told: []api.Told{{}}}
				if name == "Reading" || hasPrefix(named[kind], name) {
					printed(t, c)
				} else {
					refuses(t, c, api.ErrArg)
				}
			}
		}
	}
}

// 20.2: every field of an answer that its call's kind does not name must be 0, all of them beside an error, and every other one may be anything; no error is below 0.
func TestPrintRefusesFieldsOfAnswers(t *testing.T) {
	for _, kind := range asked {
		seen := 0
		for name, l := range turned(api.Told{}, values...) {
			for _, x := range l {
				seen++
				c := api.Trace{Conf: small(), Calls: []api.Call{{Kind: kind}}, Told: []api.Told{x}}
				switch {
				case name == "Err" && x.Err > 0, hasPrefix(namedTold[kind], name):
					printed(t, c)
				default:
					refuses(t, c, api.ErrArg)
				}
				if name == "Err" {
					continue
				}
				for _, e := range []api.Errno{1, 60, math.MaxInt, -1, math.MinInt} {
					c.Told[0].Err = e
					refuses(t, c, api.ErrArg)
				}
			}
		}
		if seen != 18*len(values) {
			t.Fatalf("%d fields were tried", seen)
		}
	}
}

// 20.2: one wrong answer is found wherever it stands.
func TestPrintRefusesAnyAnswer(t *testing.T) {
	for i := range 6 {
		x := recorded(t, small(), steps())
		x.Told[i].Err = -1
		refuses(t, x, api.ErrArg)
		x = recorded(t, small(), steps())
		x.Told[i].Seq += 1
		if x.Calls[i].Kind == api.CSend && x.Told[i].Err == api.OK {
			printed(t, x)
		} else {
			refuses(t, x, api.ErrArg)
		}
	}
}

// filled is a trace whose text has just so many bytes, most of them in a line of nodes, of packets or of departures.
func filled(size int, where string) api.Trace {
	x := api.Trace{Conf: small()}
	switch where {
	case "packets":
		x.Calls, x.Told = []api.Call{{Kind: api.CSend}}, []api.Told{{}}
	case "departures":
		x.Calls, x.Told = []api.Call{{Kind: api.CPoll}}, []api.Told{{}}
	}
	short := size - len(wantPrint(x))
	// What the last one's number has too few digits for is filled up by that of another.
	switch where {
	case "nodes":
		const least = len(" drr/0/0/0")
		for range short / least {
			x.Conf.Nodes = append(x.Conf.Nodes, api.Node{Kind: api.DRR})
		}
		x.Conf.Nodes[0].Age = wide(short % least)
	case "packets":
		const least = len(" 0/0/0/0/0/0")
		x.Told[0].Packets = make([]api.Packet, short/least)
		x.Told[0].Packets[0].ID = wide(short % least)
	case "departures":
		const least = len(" 0/0/0/0/0/0/0/0")
		x.Told[0].Left = make([]api.Departure, short/least)
		x.Told[0].Left[0].Left = wide(short % least)
	}
	return x
}

// wide is a number with so many digits more than 0 has.
func wide(more int) int {
	n := 0
	for range more {
		n = 10*max(n, 1) + 1
	}
	return n
}

// 20.2: up to MaxText bytes, and not one more.
func TestPrintLong(t *testing.T) {
	for _, where := range []string{"nodes", "packets", "departures"} {
		for more := -2; more <= 2; more++ {
			x := filled(api.MaxText+more, where)
			if more > 0 {
				refuses(t, x, api.ErrLong)
				continue
			}
			s := printed(t, x)
			if len(s) != api.MaxText+more {
				t.Fatalf("%s: %d bytes, want %d", where, len(s), api.MaxText+more)
			}
			if y := parsed(t, s); !reflect.DeepEqual(y, x) {
				t.Fatalf("%s: Parse of %d bytes tells another trace", where, len(s))
			}
		}
		refuses(t, filled(4*api.MaxText, where), api.ErrLong)
	}
}

// polls is a trace of so many calls.
func polls(size int) api.Trace {
	x := api.Trace{Conf: small(), Calls: make([]api.Call, size), Told: make([]api.Told, size)}
	for i := range x.Calls {
		x.Calls[i].Kind = api.CPoll
	}
	return x
}

// 20.2: up to MaxLines lines, which are an odd number, and no more; here the bytes would be few enough.
func TestPrintLineFeeds(t *testing.T) {
	s := printed(t, polls(32767))
	if n := strings.Count(s, "\n"); n != 65535 {
		t.Fatalf("%d lines", n)
	}
	if y := parsed(t, s); !reflect.DeepEqual(y, polls(32767)) {
		t.Fatal("Parse tells another trace")
	}
	for _, size := range []int{32768, 32769, 100000} {
		refuses(t, polls(size), api.ErrLong)
	}
}

// 20.2: ErrArg comes ahead of ErrLong, wherever the fault stands.
func TestPrintLongAndWrong(t *testing.T) {
	for _, where := range []string{"nodes", "packets", "departures"} {
		x := filled(2*api.MaxText, where)
		x.Conf.Kind = 0
		refuses(t, x, api.ErrArg)
		x = filled(2*api.MaxText, where)
		x.Told = append(x.Told, api.Told{})
		refuses(t, x, api.ErrArg)
		x.Calls = append(x.Calls, api.Call{Kind: api.CPoll, Size: 1})
		refuses(t, x, api.ErrArg)
		x.Calls[len(x.Calls)-1].Size = 0
		refuses(t, x, api.ErrLong)
		x.Told[len(x.Told)-1].Err = -1
		refuses(t, x, api.ErrArg)
	}
	x := filled(2*api.MaxText, "nodes")
	x.Conf.Nodes[len(x.Conf.Nodes)-1].Kind = 7
	refuses(t, x, api.ErrArg)
	x = polls(40000)
	x.Calls[39999].ID = 1
	refuses(t, x, api.ErrArg)
}

// 20.2, 20.7: a trace that is printed is not changed.
func TestPrintChangesNothing(t *testing.T) {
	n := noise(2003)
	for range 200 {
		x := anyTrace(&n, 20)
		before := plain(x)
		printed(t, x)
		trace.Print(api.Trace{Conf: x.Conf, Calls: x.Calls, Told: x.Told[1:]})
		if plain(x) != before {
			t.Fatalf("%s\nwas\n%s", plain(x), before)
		}
	}
	x := recorded(t, small(), steps())
	y := recorded(t, small(), steps())
	printed(t, x)
	if !reflect.DeepEqual(x, y) {
		t.Fatal("Print changed its trace")
	}
}
