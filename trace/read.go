package trace

import (
	"strings"

	"millrace/api"
)

// A fault is what the reader panics with where a text goes wrong.
type fault api.Errno

const (
	wrongLine = fault(api.ErrLine)
	wrongWord = fault(api.ErrWord)
)

// reader goes through a text, line by line.
type reader struct {
	rest string // what no line was read of
	line int    // the number of the one that is being read
}

// faultOf is the error of what the reader panicked with; any other panic goes on. Whatever is wrong with the first line, the text has no beginning.
func (r *reader) faultOf(x any) api.Errno {
	f, ok := x.(fault)
	switch {
	case !ok:
		panic(x)
	case r.line == 1:
		return api.ErrBegin
	}
	return api.Errno(f)
}

func (r *reader) trace() api.Trace {
	t := api.Trace{Conf: r.setup()}
	for r.rest != "" {
		x := r.call()
		t.Calls = append(t.Calls, x)
		t.Told = append(t.Told, r.told(x.Kind))
	}
	return t
}

// next are the words of the next line.
func (r *reader) next() []string {
	r.line++
	line, rest, ended := strings.Cut(r.rest, "\n")
	if !ended {
		panic(wrongLine)
	}
	r.rest = rest
	return cut(line, ' ')
}

// cut is what lies between the marks of a text, in front of the first one and behind the last one too.
func cut(s string, mark rune) []string {
	var l []string
	from := 0
	for i, c := range s {
		if c == mark {
			l = append(l, s[from:i])
			from = i + 1
		}
	}
	return append(l, s[from:])
}

func (r *reader) setup() api.Conf {
	var c api.Conf
	words := r.next()
	if words[0] != beginning {
		panic(wrongWord)
	}
	for _, word := range readWords(words[1:], ofSetup(&c)) {
		var n api.Node
		readParts(word, ofNode(&n))
		c.Nodes = append(c.Nodes, n)
	}
	return c
}

func (r *reader) call() api.Call {
	words := r.next()
	// A line that begins with a blank is none, whatever comes behind it.
	if len(words) < 2 || words[0] == "" {
		panic(wrongLine)
	}
	kind := placeOf(words[1], calls)
	if kind == 0 {
		panic(wrongLine)
	}
	x := api.Call{Kind: kind, Reading: readWhole(words[0])}
	readAll(words[2:], ofCall(&x))
	return x
}

// told is what a call of that kind was told.
func (r *reader) told(kind int) api.Told {
	var t api.Told
	words := r.next()
	switch words[0] {
	case refusal:
		readAll(words[1:], ofRefusal(&t))
		if t.Err <= api.OK {
			panic(wrongWord)
		}
	case answers[kind]:
		readList(kind, &t, readWords(words[1:], ofAnswer(kind, &t)))
	default:
		panic(wrongLine)
	}
	return t
}

// readList reads the words behind an answer's fields: packets or departures, as the call's kind has them.
func readList(kind int, t *api.Told, words []string) {
	for _, word := range words {
		switch kind {
		case api.CClose, api.CSend:
			var p api.Packet
			readParts(word, ofPacket(&p))
			t.Packets = append(t.Packets, p)
		case api.CPoll:
			var d api.Departure
			readParts(word, ofDeparture(&d))
			t.Left = append(t.Left, d)
		default:
			panic(wrongWord)
		}
	}
}

// readWords reads a word for each field, and answers the words that are left over.
func readWords(words []string, l []field) []string {
	if len(words) < len(l) {
		panic(wrongWord)
	}
	for i, f := range l {
		f.read(words[i])
	}
	return words[len(l):]
}

// readAll reads as many words as there are fields.
func readAll(words []string, l []field) {
	if len(readWords(words, l)) > 0 {
		panic(wrongWord)
	}
}

// readParts reads the parts of one word.
func readParts(word string, l []field) { readAll(cut(word, '/'), l) }
