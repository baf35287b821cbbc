package trace_test

import (
	"fmt"
	"math"
	"reflect"
	"slices"
	"strings"
	"testing"

	"millrace/api"
	"millrace/clock"
	"millrace/fair"
	"millrace/trace"
)

// example is the chapter's text.
const example = `millrace age 100 50 10 2 10
0 open 1 0 0 0 100 4010000000000000 1 0
flow 0 1
0 send 0 1 7 5
error 80
10 send 0 1 7 5
seq 1
30 poll
left 0/1/7/5/1/10/10/15
20 total
books 2 10 1 5 0 0 1 5 0 0 0 0
31 stats 3 1
error 60
`

// small is the chapter's set-up.
func small() api.Conf {
	return api.Conf{Kind: api.AGE, Room: 100, Most: 50, Cap: 10, Flows: 2, Age: 10}
}

var first = api.Handle{Slot: 0, Gen: 1}

// steps are the chapter's calls.
func steps() []api.Call {
	return []api.Call{
		{Kind: api.COpen, Params: api.Params{Weight: 1, Burst: 100, Rate: 4, Per: 1}},
		{Kind: api.CSend, Flow: first, ID: 7, Size: 5},
		{Kind: api.CSend, Reading: 10, Flow: first, ID: 7, Size: 5},
		{Kind: api.CPoll, Reading: 30},
		{Kind: api.CTotal, Reading: 20},
		{Kind: api.CStats, Reading: 31, Flow: api.Handle{Slot: 3, Gen: 1}},
	}
}

// 20.1: the chapter's calls, and what each of them was told.
func TestRecordExample(t *testing.T) {
	x := recorded(t, small(), steps())
	want := []api.Told{
		{Flow: first},
		{Err: api.ErrPoliced},
		{Seq: 1},
		{Left: []api.Departure{{Packet: api.Packet{Flow: first, ID: 7, Size: 5, Seq: 1, Came: 10}, Began: 10, Left: 15}}},
		{Books: api.Counters{Offered: api.Count{Packets: 2, Bytes: 10}, Refused: api.Count{Packets: 1, Bytes: 5}, Departed: api.Count{Packets: 1, Bytes: 5}}},
		{Err: api.ErrHandle},
	}
	if got := (api.Trace{Conf: small(), Calls: steps(), Told: want}); plain(got) != plain(x) {
		t.Fatalf("%s\nwant\n%s", plain(x), plain(got))
	}
}

// 20.1: what was evicted is told of the send and of the close that evicted it.
func TestRecordEvicted(t *testing.T) {
	c := api.Conf{Kind: api.EDF, Room: 50, Most: 50, Cap: 10, Flows: 2}
	rich := api.Params{Weight: 1, Span: 90, Burst: 1000, Rate: 100, Per: 1}
	hasty := rich
	hasty.Span = 1
	second := api.Handle{Slot: 1, Gen: 1}
	x := recorded(t, c, []api.Call{
		{Kind: api.COpen, Params: rich}, {Kind: api.COpen, Params: hasty},
		{Kind: api.CSend, Reading: 10, Flow: first, ID: 1, Size: 20},
		{Kind: api.CSend, Reading: 10, Flow: first, ID: 2, Size: 20},
		{Kind: api.CSend, Reading: 10, Flow: second, ID: -3, Size: 30},
		{Kind: api.CClose, Reading: 10, Flow: first},
		{Kind: api.CClose, Reading: 11, Flow: first},
		{Kind: api.CStats, Reading: 11, Flow: second},
	})
	gone := []api.Packet{{Flow: first, ID: 1, Size: 20, Seq: 1, Came: 10}, {Flow: first, ID: 2, Size: 20, Seq: 2, Came: 10}}
	for i, want := range []api.Told{
		{Flow: first}, {Flow: second}, {Seq: 1}, {Seq: 2}, {Seq: 3, Packets: gone[1:]},
		{Packets: gone[:1], Books: api.Counters{Offered: api.Count{Packets: 2, Bytes: 40}, Evicted: api.Count{Packets: 2, Bytes: 40}}},
		{Err: api.ErrHandle},
		{Books: api.Counters{Offered: api.Count{Packets: 1, Bytes: 30}, Sending: api.Count{Packets: 1, Bytes: 30}}},
	} {
		if fmt.Sprint(x.Told[i]) != fmt.Sprint(want) {
			t.Errorf("call %d: %+v, want %+v", i, x.Told[i], want)
		}
	}
}

// 20.1: no calls are a trace too, and a nil list is an empty one.
func TestRecordOfNothing(t *testing.T) {
	for _, l := range [][]api.Call{nil, {}} {
		x := recorded(t, small(), l)
		if len(x.Calls) != 0 || len(x.Told) != 0 || plain(x) != plain(api.Trace{Conf: small()}) {
			t.Errorf("%+v", x)
		}
	}
}

// 20.1: each error of conf.Check, ahead of what is wrong with the calls; and nothing beside it.
func TestRecordRefusesTheSetup(t *testing.T) {
	for _, x := range []struct {
		turn func(c *api.Conf)
		e    api.Errno
	}{
		{func(c *api.Conf) { c.Kind = 0 }, api.ErrKind},
		{func(c *api.Conf) { c.Kind = 7 }, api.ErrKind},
		{func(c *api.Conf) { c.Room = 49 }, api.ErrRoom},
		{func(c *api.Conf) { c.Most = 0 }, api.ErrMost},
		{func(c *api.Conf) { c.Cap = 4097 }, api.ErrWeight},
		{func(c *api.Conf) { c.Flows = 0 }, api.ErrFlows},
		{func(c *api.Conf) { c.Age = -1 }, api.ErrClass},
		{func(c *api.Conf) { c.Kind = api.WFQ }, api.ErrClass},
		{func(c *api.Conf) { c.Nodes = []api.Node{{Kind: api.TREE}, {Kind: api.DRR, Quantum: 1}} }, api.ErrArg},
		{func(c *api.Conf) { c.Kind, c.Age = api.TREE, 0 }, api.ErrArg},
		{func(c *api.Conf) { c.Kind, c.Age, c.Nodes = api.TREE, 0, []api.Node{{Kind: api.TREE}, {Kind: api.DRR}} }, api.ErrQuantum},
	} {
		c := small()
		x.turn(&c)
		for _, l := range [][]api.Call{nil, steps(), {{Kind: 9}}} {
			got, e := trace.Record(c, l)
			if e != x.e || !reflect.DeepEqual(got, api.Trace{}) {
				t.Errorf("Record of %+v: %+v %v, want %v", c, got, e, x.e)
			}
		}
	}
}

// named are the fields that each kind of call, and each kind's answer, may have other than 0, by the beginnings of their names.
var (
	named = [][]string{
		api.COpen: {"Params."}, api.CClose: {"Flow."}, api.CSend: {"Flow.", "ID", "Size"},
		api.CPoll: nil, api.CStats: {"Flow."}, api.CTotal: nil,
	}
	namedTold = [][]string{
		api.COpen: {"Flow."}, api.CClose: {"Packets", "Books."}, api.CSend: {"Seq", "Packets"},
		api.CPoll: {"Left"}, api.CStats: {"Books."}, api.CTotal: {"Books."},
	}
)

// fieldsOf are all fields that a struct has, those of its structs too, by their names.
func fieldsOf(v reflect.Value, name string, f func(name string, v reflect.Value)) {
	if v.Kind() != reflect.Struct {
		f(name, v)
		return
	}
	for i := range v.NumField() {
		fieldsOf(v.Field(i), strings.TrimPrefix(name+"."+v.Type().Field(i).Name, "."), f)
	}
}

// turned are copies of a struct, each with one field turned to something else, by the field's name; lists get so many elements of nothing.
func turned[T any](base T, values ...int) map[string][]T {
	all := map[string][]T{}
	fieldsOf(reflect.ValueOf(&base).Elem(), "", func(name string, v reflect.Value) {
		zero := reflect.New(v.Type()).Elem()
		for _, n := range values {
			switch v.Kind() {
			case reflect.Int:
				v.SetInt(int64(n))
			case reflect.Float64:
				v.SetFloat(math.Float64frombits(uint64(n)))
			case reflect.Slice:
				v.Set(reflect.MakeSlice(v.Type(), 1, 1))
			}
			all[name] = append(all[name], base)
			v.Set(zero)
		}
	})
	return all
}

// hasPrefix is whether a name is of a list, by beginnings.
func hasPrefix(l []string, name string) bool {
	return slices.ContainsFunc(l, func(s string) bool { return strings.HasPrefix(name, s) })
}

// values are ints that are not 0; as bits of a float64 they are a least one, NaNs, -0, and 1.
var values = []int{1, -1, math.MinInt, math.MaxInt, 0x3ff << 52}

// 20.1: every field that a kind does not name must be 0, and every other one may be anything.
func TestRecordRefusesFields(t *testing.T) {
	for _, kind := range asked {
		seen := 0
		for name, l := range turned(api.Call{}, values...) {
			if name == "Kind" {
				continue
			}
			want := api.ErrArg
			if name == "Reading" || hasPrefix(named[kind], name) {
				want = api.OK
			}
			for _, x := range l {
				seen++
				x.Kind = kind
				for _, l := range [][]api.Call{{x}, append(steps(), x), append([]api.Call{x}, steps()...)} {
					got, e := trace.Record(small(), l)
					is(t, fmt.Sprintf("Record of %+v", x), e, want)
					if e != api.OK && !reflect.DeepEqual(got, api.Trace{}) {
						t.Fatalf("Record of %+v: %+v beside an error", x, got)
					}
				}
			}
		}
		if seen != 13*len(values) {
			t.Fatalf("%d fields were tried", seen)
		}
	}
}

// 20.1: kinds that are none.
func TestRecordRefusesKinds(t *testing.T) {
	for _, kind := range noKinds {
		for i := range len(steps()) {
			l := steps()
			l[i].Kind = kind
			if _, e := trace.Record(small(), l); e != api.ErrArg {
				t.Errorf("Record of the kind %d at %d: %v", kind, i, e)
			}
		}
	}
	for _, kind := range asked {
		if _, e := trace.Record(small(), []api.Call{{Kind: kind}}); e != api.OK {
			t.Errorf("Record of the kind %d alone: %v", kind, e)
		}
	}
}

// byHand is what a scheduler answers one call after the other.
func byHand(t *testing.T, c api.Conf, l []api.Call) []api.Told {
	at := 0
	f, e := fair.New(c, clock.Func(func() int { return at }))
	is(t, "fair.New", e, api.OK)
	var told []api.Told
	for _, x := range l {
		at = x.Reading
		var a api.Told
		switch x.Kind {
		case api.COpen:
			h, e := f.Open(x.Params)
			a = api.Told{Err: e, Flow: h}
		case api.CClose:
			l, books, e := f.Close(x.Flow)
			a = api.Told{Err: e, Packets: l, Books: books}
		case api.CSend:
			seq, l, e := f.Enqueue(x.Flow, x.ID, x.Size)
			a = api.Told{Err: e, Seq: seq, Packets: l}
		case api.CPoll:
			l, e := f.Poll()
			a = api.Told{Err: e, Left: l}
		case api.CStats:
			books, e := f.Stats(x.Flow)
			a = api.Told{Err: e, Books: books}
		case api.CTotal:
			books, e := f.Total()
			a = api.Told{Err: e, Books: books}
		}
		told = append(told, a)
	}
	return told
}

// 20.1: what is recorded is the set-up, the calls, and what a new scheduler answers each, of all kinds; a second time the same.
func TestRecordIsAScheduler(t *testing.T) {
	n := noise(2001)
	errs := map[api.Errno]int{}
	evicted, left := 0, 0
	for _, kind := range kinds {
		for range 40 {
			c := anyConf(&n, kind)
			l := anyScript(&n, c, 120)
			x := recorded(t, c, l)
			want := plain(api.Trace{Conf: c, Calls: l, Told: byHand(t, c, l)})
			if plain(x) != want || plain(recorded(t, c, l)) != want {
				t.Fatalf("%s\nwant\n%s", plain(x), want)
			}
			for _, a := range x.Told {
				errs[a.Err]++
				evicted += len(a.Packets)
				left += len(a.Left)
			}
		}
	}
	for _, e := range []api.Errno{
		api.OK, api.ErrArg, api.ErrHandle, api.ErrFull, api.ErrExpired, api.ErrPoliced, api.ErrWeight,
		api.ErrRate, api.ErrCrowded, api.ErrSize, api.ErrRefused,
	} {
		if errs[e] == 0 {
			t.Errorf("%v was never told", e)
		}
	}
	if evicted < 500 || left < 3000 {
		t.Errorf("only %d were evicted, and %d left", evicted, left)
	}
}
