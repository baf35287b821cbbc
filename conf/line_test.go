package conf_test

import (
	"math"
	"strings"
	"testing"

	"millrace/api"
	"millrace/conf"
)

const (
	plainLine = "kind wfq room 100 most 50 cap 10 flows 2 age 0"
	treeLine  = "kind tree room 100 most 50 cap 10 flows 2 age 0 node age 0 5 7 node tree 0 9 0 node drr 2 1 0"
	flowLine  = "weight 1 quantum 0 class 0 span 0 burst 9 rate 1/4 per 1 node 0"
)

// reads holds Parse of a line against an answer.
func reads(t *testing.T, s string, want api.Conf, wantE api.Errno) {
	t.Helper()
	if c, e := conf.Parse(s); e != wantE || !same(c, want) {
		t.Fatalf("Parse(%.200q): %+v %v, want %+v %v", s, c, e, want, wantE)
	}
}

// readsFlow holds ParseFlow of a line against an answer.
func readsFlow(t *testing.T, c api.Conf, s string, want api.Params, wantE api.Errno) {
	t.Helper()
	if p, e := conf.ParseFlow(c, s); e != wantE || !alike(p, want) {
		t.Fatalf("ParseFlow(%.300q): %+v %v, want %+v %v", s, p, e, want, wantE)
	}
}

// byModel holds Parse of a line against the model.
func byModel(t *testing.T, s string) {
	t.Helper()
	c, e := wantParse(s)
	reads(t, s, c, e)
}

// flowByModel holds ParseFlow of a line against the model.
func flowByModel(t *testing.T, c api.Conf, s string) {
	t.Helper()
	p, e := wantParseFlow(c, s)
	readsFlow(t, c, s, p, e)
}

// 9.3

func TestPrintExamples(t *testing.T) {
	age := good(api.AGE)
	age.Age = 1 << 40
	great := api.Conf{Kind: api.EDF, Room: 1 << 30, Most: 65536, Cap: 4096, Flows: 256}
	for _, x := range []struct {
		c    api.Conf
		want string
	}{
		{good(api.WFQ), plainLine},
		{good(api.WF2), "kind wf2 room 100 most 50 cap 10 flows 2 age 0"},
		{good(api.DRR), "kind drr room 100 most 50 cap 10 flows 2 age 0"},
		{good(api.EDF), "kind edf room 100 most 50 cap 10 flows 2 age 0"},
		{age, "kind age room 100 most 50 cap 10 flows 2 age 1099511627776"},
		{good(api.TREE), treeLine},
		{great, "kind edf room 1073741824 most 65536 cap 4096 flows 256 age 0"},
	} {
		if s, e := conf.Print(x.c); s != x.want || e != api.OK {
			t.Errorf("%q %v, want %q", s, e, x.want)
		}
	}
}

func TestPrintFlowExamples(t *testing.T) {
	for _, x := range []struct {
		c    api.Conf
		p    api.Params
		want string
	}{
		{good(api.WFQ), api.Params{Weight: 1, Burst: 100, Rate: 0.5, Per: 3}, "weight 1 quantum 0 class 0 span 0 burst 100 rate 1/2 per 3 node 0"},
		{good(api.WF2), api.Params{Weight: 10, Burst: 1 << 40, Rate: 1 << 20, Per: 1 << 30}, "weight 10 quantum 0 class 0 span 0 burst 1099511627776 rate 1048576 per 1073741824 node 0"},
		{good(api.DRR), api.Params{Weight: 2, Quantum: 1 << 30, Burst: 1, Per: 1}, "weight 2 quantum 1073741824 class 0 span 0 burst 1 rate 0 per 1 node 0"},
		{good(api.EDF), api.Params{Weight: 2, Span: 77, Burst: 1, Rate: math.Copysign(0, -1), Per: 1}, "weight 2 quantum 0 class 0 span 77 burst 1 rate 0 per 1 node 0"},
		{good(api.AGE), api.Params{Weight: 2, Class: 15, Burst: 1, Rate: 0.1, Per: 1}, "weight 2 quantum 0 class 15 span 0 burst 1 rate 3602879701896397/36028797018963968 per 1 node 0"},
		{good(api.TREE), api.Params{Weight: 2, Quantum: 4, Burst: 1, Rate: 7, Per: 1, Node: 3}, "weight 2 quantum 4 class 0 span 0 burst 1 rate 7 per 1 node 3"},
	} {
		if s, e := conf.PrintFlow(x.c, x.p); s != x.want || e != api.OK {
			t.Errorf("%q %v, want %q", s, e, x.want)
		}
	}
}

// 9.3: what may not be is not printed: the error alone.
func TestPrintRefuses(t *testing.T) {
	n := noise(93)
	for range 20000 {
		c := n.anySetup()
		want := ""
		if wantCheck(c) == api.OK {
			want = wantPrint(c)
		}
		if s, e := conf.Print(c); e != wantCheck(c) || s != want {
			t.Fatalf("Print(%+v): %q %v", c, s, e)
		}
		p := n.anyFlow(c)
		want = ""
		if wantFlow(c, p) == api.OK {
			want = wantPrintFlow(p)
		}
		if s, e := conf.PrintFlow(c, p); e != wantFlow(c, p) || s != want {
			t.Fatalf("PrintFlow(%+v, %+v): %q %v", c, p, s, e)
		}
	}
}

// anySetup is a set-up that may be, or one with some field turned.
func (n *noise) anySetup() api.Conf {
	c := n.setup()
	switch n.below(12) {
	case 0:
		c.Kind = pick(n, around(1, 6))
	case 1:
		c.Room = pick(n, around(c.Most, 1<<30))
	case 2:
		c.Most = pick(n, around(1, 65536))
	case 3:
		c.Cap = pick(n, around(1, 4096))
	case 4:
		c.Flows = pick(n, around(1, 256))
	case 5:
		c.Age = pick(n, around(0, 1<<40))
	case 6:
		c.Nodes = append(c.Nodes, api.Node{Kind: n.below(8), Parent: n.below(3), Quantum: n.below(2)})
	}
	return c
}

// anyFlow is a flow that may be under c, or one with some field turned.
func (n *noise) anyFlow(c api.Conf) api.Params {
	if wantCheck(c) != api.OK {
		return plain(api.WFQ)
	}
	p := n.flow(c)
	switch n.below(16) {
	case 0:
		p.Weight = pick(n, around(1, c.Cap))
	case 1:
		p.Quantum = pick(n, around(1, 1<<30))
	case 2:
		p.Class = pick(n, around(0, 15))
	case 3:
		p.Span = pick(n, around(0, 1<<40))
	case 4:
		p.Burst = pick(n, around(1, 1<<40))
	case 5:
		p.Rate = pick(n, numbersOfAllSorts)
	case 6:
		p.Per = pick(n, around(1, 1<<30))
	case 7:
		p.Node = pick(n, around(0, len(c.Nodes)))
	}
	return p
}

// 9.4

func TestParseExamples(t *testing.T) {
	reads(t, plainLine, good(api.WFQ), api.OK)
	reads(t, "kind  wfq most 50 room 100 flows 2 cap 10 age 0 ", good(api.WFQ), api.OK)
	reads(t, "   kind wfq   age -0 most 50 room 100 flows 2 cap 10", good(api.WFQ), api.OK)
	reads(t, treeLine, good(api.TREE), api.OK)
	for _, s := range []string{
		"", " ", "kind", "kind wfq", "kind wfq room 100",
		"room 100 most 50 cap 10 flows 2 age 0 kind wfq", "room 100 kind wfq most 50 cap 10 flows 2 age 0",
		"kind WFQ room 100 most 50 cap 10 flows 2 age 0", "Kind wfq room 100 most 50 cap 10 flows 2 age 0", "kind 1 room 100 most 50 cap 10 flows 2 age 0",
		"kind wf room 100 most 50 cap 10 flows 2 age 0", "kind kind room 100 most 50 cap 10 flows 2 age 0",
		"kind wfq kind wfq room 100 most 50 cap 10 flows 2 age 0",
		"kind wfq room 0100 most 50 cap 10 flows 2 age 0", "kind wfq room +100 most 50 cap 10 flows 2 age 0", "kind wfq room 100. most 50 cap 10 flows 2 age 0",
		"kind wfq room 1_00 most 50 cap 10 flows 2 age 0", "kind wfq room 0x64 most 50 cap 10 flows 2 age 0", "kind wfq room 1e2 most 50 cap 10 flows 2 age 0",
		"kind wfq room - most 50 cap 10 flows 2 age 0", "kind wfq room --1 most 50 cap 10 flows 2 age 0", "kind wfq room -+1 most 50 cap 10 flows 2 age 0",
		"kind wfq room 100 most 50 cap 10 flows 2 age 00", "kind wfq room 100 most 50 cap 10 flows 2 age -00", "kind wfq room 100 most 50 cap 10 flows 2 age -01",
		"kind wfq room 100 most 50 cap 10 flows 2 age +0", "kind wfq room 100 most 50 cap 10 flows 2 age - 0",
		"kind wfq room \u0661\u0660 most 50 cap 10 flows 2 age 0", "kind wfq room 100\u00a0most 50 cap 10 flows 2 age 0",
		"kind wfq room 9223372036854775808 most 50 cap 10 flows 2 age 0", "kind wfq room -9223372036854775809 most 50 cap 10 flows 2 age 0",
		"kind wfq room 18446744073709551716 most 50 cap 10 flows 2 age 0",
		"kind wfq room 100 most 50 cap 10 flows 2", "kind wfq room 100 most 50 cap 10 flows 2 age", "kind wfq room 100 most 50 cap 10 flows 2 flows 2",
		"kind wfq room 100 most 50 cap 10 flows 2 age 0 age 0", "kind wfq room 100 most 50 cap 10 flows 2 room 100", "kind wfq room 100 most 50 cap 10 flows 2 per 0",
		"kind wfq room 100 most 50 cap 10 flows 2 age 0 0", "kind wfq room 100 most 50 cap 10 flows 2 age 0 x", "kind wfq room most 100 50 cap 10 flows 2 age 0",
		"kind wfq room 100 most 50 cap 10 flows 2 age\t0", "kind wfq room 100 most 50 cap 10 flows 2 age 0\n", "\tkind wfq room 100 most 50 cap 10 flows 2 age 0",
		"kind wfq room 100 most 50 cap 10 flows 2 age 0\x00", "kind wfq room 100 most 50 cap 10 flows 2 age 0 \xff", "kind wfq room 100\xe2 most 50 cap 10 flows 2 age 0",
		plainLine + " node age 0 5 7", "kind tree room 100 most 50 cap 10 flows 2 node age 0 5 7 age 0", "kind tree node age 0 5 7 room 100 most 50 cap 10 flows 2 age 0",
		treeLine + " node", treeLine + " node drr", treeLine + " node drr 0", treeLine + " node drr 0 1", treeLine + " node drr 0 1 0 0", treeLine + " drr 0 1 0",
		treeLine + " node xyz 0 1 0", treeLine + " node 2 0 1 0", treeLine + " node drr 00 1 0", treeLine + " node drr 0 x 0", treeLine + " node drr 0 1 9223372036854775808",
		treeLine + " age 0", treeLine + " node node drr 0 1 0",
		// Numbers without their names.
		"kind wfq 100 50 10 2 0", "kind wfq x 100 50 10 2 0", "kind wfq room 100 room 100 50 10 2 0", "kind wfq room 100 most 50 x 100 50 10 2 0",
	} {
		reads(t, s, api.Conf{}, api.ErrWord)
		byModel(t, s)
	}
}

// 9.4: what stands there well, but may not be, is answered as Check does.
func TestParseChecks(t *testing.T) {
	head := "kind tree room 100 most 50 cap 10 flows 2 age 0"
	for _, x := range []struct {
		s string
		e api.Errno
	}{
		{"kind wfq room -5 most 50 cap 10 flows 2 age 0", api.ErrRoom},
		{"kind wfq room 100 most -0 cap 10 flows 2 age 0", api.ErrMost},
		{"kind wfq room -9223372036854775808 most 50 cap 10 flows 2 age 0", api.ErrRoom},
		{"kind wfq room 9223372036854775807 most 50 cap 10 flows 2 age 0", api.ErrRoom},
		{"kind wfq room 100 most 50 cap 0 flows 0 age 0", api.ErrWeight},
		{"kind wfq age 1 flows 0 cap 10 most 50 room 100", api.ErrFlows},
		{"kind wfq room 100 most 50 cap 10 flows 2 age 1", api.ErrClass},
		{head, api.ErrArg},
		{head + " node tree 0 1 0", api.ErrArg},
		{head + " node drr 1 1 0", api.ErrArg},
		{head + " node drr -1 1 0", api.ErrArg},
		{head + " node drr 0 0 0", api.ErrQuantum},
		{head + " node drr 0 1 1", api.ErrClass},
		{head + " node age 0 1 -1", api.ErrClass},
		{head + strings.Repeat(" node drr 0 1 0", 32), api.ErrArg},
		{head + strings.Repeat(" node drr 0 1 0", 200), api.ErrArg},
		{"kind tree room 100 most 0 cap 10 flows 2 age 0" + strings.Repeat(" node drr 0 1 0", 200), api.ErrMost},
	} {
		reads(t, x.s, api.Conf{}, x.e)
		byModel(t, x.s)
	}
	wide := good(api.TREE)
	wide.Nodes = []api.Node{{Kind: api.TREE}}
	for range 31 {
		wide.Nodes = append(wide.Nodes, api.Node{Kind: api.DRR, Quantum: 1})
	}
	reads(t, head+strings.Repeat(" node drr 0 1 0", 31), wide, api.OK)
}

// 9.4: 4,096 bytes, and one more; its length is looked at ahead of its words.
func TestLongLines(t *testing.T) {
	blanks := func(s string, length int) string { return s + strings.Repeat(" ", length-len(s)) }
	reads(t, blanks(plainLine, 4096), good(api.WFQ), api.OK)
	reads(t, strings.Repeat(" ", 4096-len(treeLine))+treeLine, good(api.TREE), api.OK)
	reads(t, blanks(plainLine, 4097), api.Conf{}, api.ErrLong)
	reads(t, blanks("", 4096), api.Conf{}, api.ErrWord)
	reads(t, blanks("", 4097), api.Conf{}, api.ErrLong)
	reads(t, strings.Repeat("x", 4096), api.Conf{}, api.ErrWord)
	reads(t, strings.Repeat("x", 1<<20), api.Conf{}, api.ErrLong)
	reads(t, strings.Repeat("\u00e9", 2049), api.Conf{}, api.ErrLong)
	reads(t, plainLine+strings.Repeat(" 0", 4096), api.Conf{}, api.ErrLong)

	c := good(api.WFQ)
	p := api.Params{Weight: 1, Burst: 9, Rate: 0.25, Per: 1}
	readsFlow(t, c, blanks(flowLine, 4096), p, api.OK)
	readsFlow(t, c, blanks(flowLine, 4097), api.Params{}, api.ErrLong)
	readsFlow(t, c, blanks("", 4096), api.Params{}, api.ErrWord)
	readsFlow(t, c, blanks("", 4097), api.Params{}, api.ErrLong)
	readsFlow(t, api.Conf{}, blanks("", 4097), api.Params{}, api.ErrKind)
	readsFlow(t, good(8), flowLine, api.Params{}, api.ErrKind)
	readsFlow(t, api.Conf{}, "", api.Params{}, api.ErrKind)
}

// orders calls do with all orders of l.
func orders(l []string, do func(l []string)) {
	var place func(from int)
	place = func(from int) {
		if from == len(l) {
			do(l)
			return
		}
		for i := from; i < len(l); i++ {
			l[from], l[i] = l[i], l[from]
			place(from + 1)
			l[from], l[i] = l[i], l[from]
		}
	}
	place(0)
}

// 9.4: the named numbers in every order.
func TestAnyOrder(t *testing.T) {
	orders([]string{"room 100", "most 50", "cap 10", "flows 2", "age 0"}, func(l []string) {
		reads(t, "kind wfq "+strings.Join(l, " "), good(api.WFQ), api.OK)
		reads(t, "kind tree "+strings.Join(l, " ")+" node age 0 5 7 node tree 0 9 0 node drr 2 1 0", good(api.TREE), api.OK)
	})
	c := flat()
	p := api.Params{Weight: 3, Quantum: 8, Burst: 9, Rate: 0.25, Per: 6, Node: 3}
	orders([]string{"weight 3", "quantum 8", "class 0", "span 0", "burst 9", "rate 0.25", "per 6", "node 3"}, func(l []string) {
		readsFlow(t, c, strings.Join(l, " "), p, api.OK)
	})
}

func TestParseFlowExamples(t *testing.T) {
	c := good(api.WFQ)
	with := func(rate string) string { return strings.Replace(flowLine, "1/4", rate, 1) }
	quarter := api.Params{Weight: 1, Burst: 9, Rate: 0.25, Per: 1}
	readsFlow(t, c, "rate 1/4 weight 1 quantum 0 class 0 span 0 burst 9 per 1 node 0", quarter, api.OK)
	for _, rate := range []string{"0.25", "25e-2", "2/8", "0001/4", "2.5e-1", "0.25000"} {
		readsFlow(t, c, with(rate), quarter, api.OK)
	}
	readsFlow(t, c, "  rate 1/4   weight 1 quantum -0 class 0 span 0 burst 9 per 1 node 0  ", quarter, api.OK)
	for _, rate := range []string{".25", "5.", "+1", "-0", "-1", "1/0", "1/2e3", "x", "NaN", "Inf", "1e1000", "0x1p4", "rate", strings.Repeat("0", 401), "1\u00a02"} {
		readsFlow(t, c, with(rate), api.Params{}, api.ErrWord)
	}
	for _, s := range []string{
		"", "rate 1/4", strings.Replace(flowLine, " per 1", "", 1), flowLine + " per 1", flowLine + " 0", flowLine + " age 0", "kind wfq " + flowLine,
		strings.Replace(flowLine, "weight 1", "weight 01", 1), strings.Replace(flowLine, "weight 1", "weight 1/1", 1), strings.Replace(flowLine, "weight 1", "weight 1.0", 1),
		strings.Replace(flowLine, "per 1", "rate 1", 1), strings.Replace(flowLine, "per 1", "weight 1", 1), strings.Replace(flowLine, "per 1", "Per 1", 1),
		strings.Replace(flowLine, "per 1", "per 9223372036854775808", 1), strings.Replace(flowLine, "node 0", "node", 1), strings.Replace(flowLine, "node 0", "node\t0", 1),
		flowLine + "\n",
		// Numbers without their names.
		"1 0 0 0 9 1/4 1 0", "x 1 0 0 0 9 1/4 1 0", "rate 1/4 rate 1 0 0 0 9 1/4 1 0",
	} {
		readsFlow(t, c, s, api.Params{}, api.ErrWord)
		flowByModel(t, c, s)
	}
}

// 9.4: ErrRate for a fraction that no number is, ahead of what CheckFlow says; a rate that is too great comes as CheckFlow's last.
func TestParseFlowRates(t *testing.T) {
	c := good(api.WFQ)
	with := func(rate, weight string) string {
		return "rate " + rate + " weight " + weight + " quantum 0 class 0 span 0 burst 9 per 1 node 0"
	}
	for _, rate := range []string{"0.1", "1/3", "1e999", "1e300", "9007199254740993", "1/" + strings.Repeat("9", 380), strings.Repeat("9", 400), "1e-999", "1e-400"} {
		readsFlow(t, c, with(rate, "1"), api.Params{}, api.ErrRate)
		readsFlow(t, c, with(rate, "0"), api.Params{}, api.ErrRate)
		readsFlow(t, c, with(rate, "x"), api.Params{}, api.ErrWord)
		readsFlow(t, c, with(rate, "1")+" x", api.Params{}, api.ErrWord)
		readsFlow(t, c, strings.Replace(with(rate, "1"), "node 0", "node 1", 1), api.Params{}, api.ErrRate)
	}
	for _, rate := range []string{"1048577", "1e22", "9007199254740992", "2097153/2"} {
		readsFlow(t, c, with(rate, "1"), api.Params{}, api.ErrRate)
		readsFlow(t, c, with(rate, "0"), api.Params{}, api.ErrWeight)
	}
	least := fraction("1/" + powerOfTwo(1074))
	if a, _ := least.Float64(); a != 0x1p-1074 {
		t.Fatal("the least number is wrong here")
	}
	readsFlow(t, c, with("1/"+powerOfTwo(1074), "1"), api.Params{Weight: 1, Burst: 9, Rate: 0x1p-1074, Per: 1}, api.OK)
	readsFlow(t, c, with("1/"+powerOfTwo(1075), "1"), api.Params{}, api.ErrRate)
	readsFlow(t, c, with("3/"+powerOfTwo(1075), "1"), api.Params{}, api.ErrRate)
	readsFlow(t, c, with("1048576", "1"), api.Params{Weight: 1, Burst: 9, Rate: 1 << 20, Per: 1}, api.OK)
	readsFlow(t, c, with("0", "1"), api.Params{Weight: 1, Burst: 9, Per: 1}, api.OK)
	readsFlow(t, c, with("0/7", "1"), api.Params{Weight: 1, Burst: 9, Per: 1}, api.OK)
	readsFlow(t, c, with("0e-999", "11"), api.Params{}, api.ErrWeight)
	for _, x := range []struct {
		old, new string
		e        api.Errno
	}{
		{"node 0", "node 1", api.ErrArg}, {"weight 1", "weight 11", api.ErrWeight}, {"quantum 0", "quantum 1", api.ErrQuantum}, {"class 0", "class -1", api.ErrClass},
		{"span 0", "span 1", api.ErrSpan}, {"burst 9", "burst 0", api.ErrBurst}, {"per 1", "per 0", api.ErrRate},
	} {
		readsFlow(t, c, strings.Replace(flowLine, x.old, x.new, 1), api.Params{}, x.e)
	}
}

// powerOfTwo is the digits of 2 to the power n.
func powerOfTwo(n int) string {
	digits := []byte{'1'}
	for range n {
		carry := byte(0)
		for i := len(digits) - 1; i >= 0; i-- {
			d := (digits[i]-'0')*2 + carry
			digits[i], carry = '0'+d%10, d/10
		}
		if carry > 0 {
			digits = append([]byte{'0' + carry}, digits...)
		}
	}
	return string(digits)
}

// 9.4: each word of a line in turn becomes another, goes, or stands there twice; two words change their places.
func TestEachWordTurned(t *testing.T) {
	pool := []string{
		"kind", "wfq", "wf2", "drr", "edf", "age", "tree", "room", "most", "cap", "flows", "node", "weight", "quantum", "class", "span", "burst", "rate", "per",
		"0", "1", "-0", "-1", "00", "01", "+1", "1/2", "0.5", "1e1", "-", "x", "9223372036854775807", "9223372036854775808", "-9223372036854775808", "\t", "", "\xff", "\u00e9",
	}
	for _, line := range []string{plainLine, treeLine} {
		turned(line, pool, func(s string) { byModel(t, s) })
	}
	for _, c := range []api.Conf{good(api.WFQ), good(api.TREE), good(api.AGE)} {
		turned(flowLine, pool, func(s string) { flowByModel(t, c, s) })
	}
}

// turned goes through the lines that differ from this one by a word, or by two that changed their places.
func turned(line string, pool []string, do func(s string)) {
	l := strings.Split(line, " ")
	for i := range l {
		head, tail := strings.Join(l[:i], " ")+" ", " "+strings.Join(l[i+1:], " ")
		do(head + tail)
		for _, w := range pool {
			do(head + w + tail)
			do(head + w + " " + l[i] + tail)
		}
		for j := range i {
			m := append([]string{}, l...)
			m[i], m[j] = m[j], m[i]
			do(strings.Join(m, " "))
		}
	}
	for cut := range len(line) {
		do(line[:cut])
		do(line[cut:])
		do(line[:cut] + " " + line[cut:])
		do(line[:cut] + line[cut+1:])
	}
}

// 9.4: any set-up's line, with words and bytes turned.
func TestAnyLine(t *testing.T) {
	n := noise(94)
	read := 0
	for range 30000 {
		c := n.anySetup()
		line := n.spoilt(wantPrint(c))
		byModel(t, line)
		if _, e := wantParse(line); e == api.OK {
			read++
		}
		base := n.setup()
		flowByModel(t, base, n.spoilt(wantPrintFlow(n.flow(base))))
	}
	if read < 5000 || read > 25000 {
		t.Fatalf("%d lines are read: too few or too many to tell", read)
	}
}

// spoilt is a line in which some words or bytes may be turned.
func (n *noise) spoilt(line string) string {
	l := strings.Split(line, " ")
	for n.below(3) == 0 {
		i, j := n.below(len(l)), n.below(len(l))
		switch n.below(6) {
		case 0:
			l[i], l[j] = l[j], l[i]
		case 1:
			l[i] = l[j]
		case 2:
			l[i] = pick(n, []string{"0", "1", "2", "-1", "007", "99999999999999999999", "tree", "drr", "1/3", "node"})
		case 3:
			l = append(l[:i:i], append([]string{l[j]}, l[i:]...)...)
		case 4:
			l[i] += " "
		case 5:
			b := []byte(l[i] + "?")
			b[n.below(len(b))] = byte(n.word())
			l[i] = string(b)
		}
	}
	return strings.Join(l, " ")
}
