package trace_test

import (
	"fmt"
	"math"
	"math/big"
	"regexp"
	"slices"
	"strings"

	"millrace/api"
)

// The model says what a text is by one regular expression a line, and prints by fmt.

// Names of the kinds, each at its number.
var (
	kindNames = []string{"", "wfq", "drr", "edf", "age", "wf2", "tree"}
	callNames = []string{"", "open", "close", "send", "poll", "stats", "total"}
)

const (
	anInt  = `(?:0|-?[1-9][0-9]*)`
	aNode  = `(?:wfq|drr|edf|age|wf2|tree)(?:/` + anInt + `){3}`
	aCame  = `(?:` + anInt + `/){5}` + anInt
	aLeft  = `(?:` + anInt + `/){7}` + anInt
	aBooks = `books(?: ` + anInt + `){12}`
)

func lineOf(form string) *regexp.Regexp { return regexp.MustCompile(`^(?:` + form + `)\n$`) }

var (
	firstLine = lineOf(`millrace (?:wfq|drr|edf|age|wf2|tree)(?: ` + anInt + `){5}(?: ` + aNode + `)*`)
	// A line that begins with a blank is no call's, whatever its second word is.
	callLine    = regexp.MustCompile(`^[^ \n]+ (open|close|send|poll|stats|total)(?: .*)?\n$`)
	refusalLine = lineOf(`error [1-9][0-9]*`)
	wholeCalls  = []*regexp.Regexp{
		nil,
		lineOf(anInt + ` open(?: ` + anInt + `){5} [0-9a-f]{16} ` + anInt + ` ` + anInt),
		lineOf(anInt + ` close ` + anInt + ` ` + anInt),
		lineOf(anInt + ` send(?: ` + anInt + `){4}`),
		lineOf(anInt + ` poll`),
		lineOf(anInt + ` stats ` + anInt + ` ` + anInt),
		lineOf(anInt + ` total`),
	}
	wholeAnswers = []*regexp.Regexp{
		nil,
		lineOf(`flow ` + anInt + ` ` + anInt),
		lineOf(aBooks + `(?: ` + aCame + `)*`),
		lineOf(`seq ` + anInt + `(?: ` + aCame + `)*`),
		lineOf(`left(?: ` + aLeft + `)*`),
		lineOf(aBooks),
		lineOf(aBooks),
	}
	answerNames = []string{"", "flow", "books", "seq", "left", "books", "books"}
)

var numbersOf = regexp.MustCompile(`-?[0-9]+`)

// fits is whether a line has that form, and each of its whole numbers is an int's.
func fits(line string, form *regexp.Regexp) bool {
	if !form.MatchString(line) {
		return false
	}
	// A rate's digits, and those of a kind's name, are few enough for any int.
	for _, digits := range numbersOf.FindAllString(line, -1) {
		x, _ := new(big.Int).SetString(digits, 10)
		if !x.IsInt64() {
			return false
		}
	}
	return true
}

// wantParse is what Parse has to tell of a text, but for the trace.
func wantParse(s string) (api.Errno, int) {
	if len(s) > 1048576 || strings.Count(s, "\n") > 65536 {
		return api.ErrLong, 0
	}
	lines := slices.Collect(strings.SplitAfterSeq(s, "\n"))
	if lines[len(lines)-1] == "" {
		lines = lines[:len(lines)-1]
	}
	if len(lines) == 0 || !fits(lines[0], firstLine) {
		return api.ErrBegin, 1
	}
	kind := 0
	for i, line := range lines[1:] {
		var form *regexp.Regexp
		if i%2 == 0 {
			m := callLine.FindStringSubmatch(line)
			if m == nil {
				return api.ErrLine, i + 2
			}
			kind = slices.Index(callNames, m[1])
			form = wholeCalls[kind]
		} else {
			name, ended := strings.CutSuffix(line, "\n")
			name, _, _ = strings.Cut(name, " ")
			switch {
			case !ended:
				return api.ErrLine, i + 2
			case name == "error":
				form = refusalLine
			case name == answerNames[kind]:
				form = wholeAnswers[kind]
			default:
				return api.ErrLine, i + 2
			}
		}
		if !fits(line, form) {
			return api.ErrWord, i + 2
		}
	}
	if len(lines)%2 == 0 {
		return api.ErrLine, len(lines) + 1
	}
	return api.OK, 0
}

func wantInt(n int) string { return fmt.Sprintf("%d", n) }

func wantRate(bits uint64) string { return fmt.Sprintf("%016x", bits) }

// wantPrint is the text of a trace that has one.
func wantPrint(x api.Trace) string {
	var b strings.Builder
	c := x.Conf
	fmt.Fprintf(&b, "millrace %s %d %d %d %d %d", kindNames[c.Kind], c.Room, c.Most, c.Cap, c.Flows, c.Age)
	for _, n := range c.Nodes {
		fmt.Fprintf(&b, " %s/%d/%d/%d", kindNames[n.Kind], n.Parent, n.Quantum, n.Age)
	}
	b.WriteString("\n")
	for i, y := range x.Calls {
		p, h := y.Params, y.Flow
		fmt.Fprintf(&b, "%d %s", y.Reading, callNames[y.Kind])
		switch callNames[y.Kind] {
		case "open":
			fmt.Fprintf(&b, " %d %d %d %d %d %016x %d %d", p.Weight, p.Quantum, p.Class, p.Span, p.Burst, math.Float64bits(p.Rate), p.Per, p.Node)
		case "close", "stats":
			fmt.Fprintf(&b, " %d %d", h.Slot, h.Gen)
		case "send":
			fmt.Fprintf(&b, " %d %d %d %d", h.Slot, h.Gen, y.ID, y.Size)
		}
		b.WriteString("\n")
		wantTold(&b, callNames[y.Kind], x.Told[i])
	}
	return b.String()
}

func wantTold(b *strings.Builder, call string, t api.Told) {
	k := t.Books
	switch {
	case t.Err != 0:
		fmt.Fprintf(b, "error %d", int(t.Err))
	case call == "open":
		fmt.Fprintf(b, "flow %d %d", t.Flow.Slot, t.Flow.Gen)
	case call == "send":
		fmt.Fprintf(b, "seq %d", t.Seq)
	case call == "poll":
		fmt.Fprintf(b, "left")
	default:
		fmt.Fprintf(b, "books %d %d %d %d %d %d %d %d %d %d %d %d",
			k.Offered.Packets, k.Offered.Bytes, k.Refused.Packets, k.Refused.Bytes, k.Evicted.Packets, k.Evicted.Bytes,
			k.Departed.Packets, k.Departed.Bytes, k.Queued.Packets, k.Queued.Bytes, k.Sending.Packets, k.Sending.Bytes)
	}
	for _, p := range t.Packets {
		fmt.Fprintf(b, " %d/%d/%d/%d/%d/%d", p.Flow.Slot, p.Flow.Gen, p.ID, p.Size, p.Seq, p.Came)
	}
	for _, d := range t.Left {
		fmt.Fprintf(b, " %d/%d/%d/%d/%d/%d/%d/%d", d.Flow.Slot, d.Flow.Gen, d.ID, d.Size, d.Seq, d.Came, d.Began, d.Left)
	}
	b.WriteString("\n")
}

// plain is a trace as the text of a Go value, in which rates are bits, and nil and empty lists the same.
func plain(x api.Trace) string {
	var b strings.Builder
	fmt.Fprintf(&b, "%+v", x.Conf)
	for _, y := range x.Calls {
		fmt.Fprintf(&b, "\n%+v %x", y, math.Float64bits(y.Params.Rate))
	}
	for _, t := range x.Told {
		fmt.Fprintf(&b, "\n%+v", t)
	}
	return b.String()
}
