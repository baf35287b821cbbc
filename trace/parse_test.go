package trace_test

import (
	"math"
	"reflect"
	"slices"
	"strings"
	"testing"

	"millrace/api"
	"millrace/trace"
)

// wrong is that a text is none, by the error and the line that are wanted; and that nothing else is told.
func wrong(t *testing.T, s string, want api.Errno, line int) {
	t.Helper()
	x, e, n := trace.Parse(s)
	if e != want || n != line {
		t.Errorf("Parse of %.300q: %v, line %d, want %v, line %d", s, e, n, want, line)
	}
	if e != api.OK && !reflect.DeepEqual(x, api.Trace{}) {
		t.Errorf("Parse of %.300q: %+v beside an error", s, x)
	}
	if e, n := wantParse(s); e != want || n != line {
		t.Errorf("the model of %.300q: %v, line %d, want %v, line %d", s, e, n, want, line)
	}
}

// 20.3: the chapter's text, and its wrong ones.
func TestParseExample(t *testing.T) {
	want := recorded(t, small(), steps())
	if x := parsed(t, example); plain(x) != plain(want) {
		t.Fatalf("%s\nwant\n%s", plain(x), plain(want))
	}
	wrong(t, strings.TrimSuffix(example, "error 60\n"), api.ErrLine, 13)
	wrong(t, "0 open"+strings.TrimPrefix(example, "millrace"), api.ErrBegin, 1)
	wrong(t, strings.Replace(example, "10 send", "010 send", 1), api.ErrWord, 6)
	wrong(t, "", api.ErrBegin, 1)
}

// 20.3: what is wrong with the first line, whatever it is, and whatever comes behind.
func TestParseBegins(t *testing.T) {
	for _, line := range []string{
		"", "\n", " \n", "millrace", "millrace\n", "millrace age\n", "millrace age 100 50 10 2\n", "millrace age 100 50 10 2 \n",
		"millrace age 100 50 10 2 10", "millrace age 100 50 10 2 10 \n", "millrace age 100 50 10 2 10 0\n", " millrace age 100 50 10 2 10\n",
		"millrace  age 100 50 10 2 10\n", "millrace age  100 50 10 2 10\n", "millrace age 100 50 10  2 10\n", "Millrace age 100 50 10 2 10\n",
		"millrac age 100 50 10 2 10\n", "millraces age 100 50 10 2 10\n", "millrace AGE 100 50 10 2 10\n", "millrace fifo 100 50 10 2 10\n",
		"millrace  100 50 10 2 10\n", "millrace 4 100 50 10 2 10\n", "millrace age 0100 50 10 2 10\n", "millrace age 100 50 10 2 -0\n",
		"millrace age 100 50 10 2 +1\n", "millrace age 100 50 10 2 9223372036854775808\n", "millrace age 100 50 10 2 -9223372036854775809\n",
		"millrace age 100 50 10 2 10\r\n", "millrace\tage 100 50 10 2 10\n", "millrace age 1 1 1 1 1 age/0/0\n", "millrace age 1 1 1 1 1 age/0/0/0/0\n",
		"millrace age 1 1 1 1 1 /0/0/0\n", "millrace age 1 1 1 1 1 fifo/0/0/0\n", "millrace age 1 1 1 1 1 0/0/0/0\n", "millrace age 1 1 1 1 1 age/0//0\n",
		"millrace age 1 1 1 1 1 age/0/0/00\n", "millrace age 1 1 1 1 1 age/-0/0/0\n", "millrace age 1 1 1 1 1 age/0/0/0/\n", "millrace age 1 1 1 1 1 /age/0/0/0\n",
		"millrace age 1 1 1 1 1 age/0/0/0  age/0/0/0\n", "millrace age 1 1 1 1 1 age/0/0/0 \n", "millrace age 1 1 1 1 1 age/0/0/9223372036854775808\n",
		"millrace age 1 1 1 1 1 age/0/0/0", "millrace age 1 1 1 1 1 age\n", "millrace age 1 1 1 1 1 age 0 0 0\n", "\xff", "\n\n\n", "error 1\n", "0 open 1 0 0 0 100 4010000000000000 1 0\n",
	} {
		wrong(t, line, api.ErrBegin, 1)
		if strings.HasSuffix(line, "\n") {
			wrong(t, line+"0 poll\nleft\n", api.ErrBegin, 1)
			wrong(t, line+"x\n", api.ErrBegin, 1)
		}
	}
	for i, name := range kindNames[1:] {
		x := parsed(t, "millrace "+name+" -9223372036854775808 9223372036854775807 -1 0 7 "+name+"/-1/2/3\n")
		want := api.Trace{Conf: api.Conf{Kind: i + 1, Room: math.MinInt, Most: math.MaxInt, Cap: -1, Flows: 0, Age: 7, Nodes: []api.Node{{Kind: i + 1, Parent: -1, Quantum: 2, Age: 3}}}}
		if !reflect.DeepEqual(x, want) {
			t.Errorf("%s: %+v", name, x)
		}
	}
}

const head = "millrace age 100 50 10 2 10\n"

// zeros are the books of nothing.
const zeros = "books 0 0 0 0 0 0 0 0 0 0 0 0"

// pairs are calls of each kind and what they may be told, each with words that take part in its line.
var pairs = [][2]string{
	{"0 open 1 2 3 4 5 4010000000000000 6 7", "flow 8 9"},
	{"0 open -1 -2 -3 -4 -5 fff8000000000001 -6 -7", "error 1"},
	{"5 close 1 2", "books 1 2 3 4 5 6 7 8 9 10 11 12"},
	{"5 close 1 2", "books 1 2 3 4 5 6 7 8 9 10 11 12 1/2/3/4/5/6"},
	{"5 close 1 2", "books 1 2 3 4 5 6 7 8 9 10 11 12 1/2/3/4/5/6 -7/-8/-9/10/11/12"},
	{"5 close 1 2", "error 60"},
	{"6 send 1 2 3 4", "seq 5"},
	{"6 send 1 2 3 4", "seq 5 1/2/3/4/5/6 7/8/9/10/11/12"},
	{"6 send 1 2 3 4", "error 9223372036854775807"},
	{"-7 poll", "left"},
	{"-7 poll", "left 1/2/3/4/5/6/7/8 0/0/0/0/0/0/0/0"},
	{"-7 poll", "error 70"},
	{"8 stats 1 2", "books 1 2 3 4 5 6 7 8 9 10 11 12"},
	{"8 stats 1 2", "error 60"},
	{"9 total", "books -1 -2 -3 -4 -5 -6 -7 -8 -9 -10 -11 -12"},
	{"9 total", "error 70"},
}

// textOf is the text of one call with what it was told, between two others.
func textOf(call, told string) string {
	return head + "0 poll\nleft\n" + call + "\n" + told + "\n9 total\nerror 7\n"
}

// 20.3: each kind of line is taken.
func TestParseLines(t *testing.T) {
	for _, x := range pairs {
		s := textOf(x[0], x[1])
		wrong(t, s, api.OK, 0)
		if y := wantPrint(parsed(t, s)); y != s {
			t.Errorf("%q is read as %q", s, y)
		}
	}
}

// 20.3: lines that do not end, and answers that are missing: the number is that of the line, or of the next one.
func TestParseEnds(t *testing.T) {
	for _, x := range pairs {
		s := textOf(x[0], x[1])
		for i := range len(s) {
			line := strings.Count(s[:i], "\n") + 1
			switch {
			case line == 1:
				wrong(t, s[:i], api.ErrBegin, 1)
			case s[i-1] == '\n' && line%2 == 0:
				wrong(t, s[:i], api.OK, 0)
			default:
				wrong(t, s[:i], api.ErrLine, line)
			}
		}
	}
	// Whatever else is wrong with a line that does not end.
	wrong(t, head+"0 poll x", api.ErrLine, 2)
	wrong(t, head+"x poll", api.ErrLine, 2)
	wrong(t, head+"0 poll\nleft x", api.ErrLine, 3)
	wrong(t, head+"x", api.ErrLine, 2)
	// A call's wrong word comes ahead of its answer that is missing.
	wrong(t, head+"x poll\n", api.ErrWord, 2)
	wrong(t, head+"0 poll x\n", api.ErrWord, 2)
}

// 20.3: a call's second word is one of six.
func TestParseCallsNames(t *testing.T) {
	for _, x := range pairs {
		words := strings.Split(x[0], " ")
		for _, name := range []string{"", "Poll", "pol", "polls", "open/", "close\t", "flow", "books", "seq", "left", "error", "millrace", "0", "1", "snapshot", "due", "wait", "-", "wfq", "p\xffoll"} {
			l := slices.Clone(words)
			l[1] = name
			wrong(t, textOf(strings.Join(l, " "), x[1]), api.ErrLine, 4)
			// Also with a first word that is none.
			l[0] = "x"
			wrong(t, textOf(strings.Join(l, " "), x[1]), api.ErrLine, 4)
		}
		wrong(t, textOf("", x[1]), api.ErrLine, 4)
		wrong(t, textOf("0", x[1]), api.ErrLine, 4)
		wrong(t, textOf("x", x[1]), api.ErrLine, 4)
		wrong(t, textOf(words[1], x[1]), api.ErrLine, 4)
		wrong(t, textOf("0 ", x[1]), api.ErrLine, 4)
		// Blanks ahead of the line, and two ahead of the second word.
		wrong(t, textOf(" "+x[0], x[1]), api.ErrLine, 4)
		wrong(t, textOf("  "+x[0], x[1]), api.ErrLine, 4)
		wrong(t, textOf(strings.Replace(x[0], " ", "  ", 1), x[1]), api.ErrLine, 4)
		wrong(t, textOf(strings.TrimPrefix(x[0], words[0]), x[1]), api.ErrLine, 4)
	}
}

// 20.3: an answer's first word is one that its call may have.
func TestParseAnswersNames(t *testing.T) {
	may := map[string]string{"open": "flow", "close": "books", "send": "seq", "poll": "left", "stats": "books", "total": "books"}
	for _, x := range pairs {
		call := strings.Split(x[0], " ")[1]
		for _, name := range []string{"flow", "books", "seq", "left", "error", "", "Error", "errors", "open", "close", "send", "poll", "stats", "total", "x", "0", "60", "book", "lefts", "\xff", "left\t"} {
			_, rest, _ := strings.Cut(x[1], " ")
			for _, s := range []string{name, name + " " + rest} {
				e, line := api.ErrLine, 5
				if name == "error" || name == may[call] {
					e, line = wantParse(textOf(x[0], s))
					if e != api.ErrWord && e != api.OK {
						t.Fatalf("the model of %q: %v", s, e)
					}
				}
				wrong(t, textOf(x[0], s), e, line)
			}
		}
		wrong(t, textOf(x[0], " "+x[1]), api.ErrLine, 5)
		wrong(t, textOf(x[0], "  "+x[1]), api.ErrLine, 5)
	}
}

// bad are words that are no whole numbers, and good ones that are.
var (
	bad = []string{
		"", "-", "+", "+1", "01", "00", "-0", "-00", "-01", "--1", "1-", "1.0", "1e3", "0x1", "1_0", "a", "f", "one", "\xff", "1\xff", "1\t", "\t1", "1\r", "1,", "/", "1/2",
		"\uff11", "\u0661", "9223372036854775808", "-9223372036854775809", "9223372036854775810", "92233720368547758070", "18446744073709551616", "-18446744073709551615",
		"99999999999999999999999999", "-00000000000000000000000001", strings.Repeat("1", 500),
	}
	good = []int{0, 1, -1, 9, 10, -10, 99, 100, math.MaxInt, math.MaxInt - 1, math.MinInt, math.MinInt + 1, 922337203685477580, -922337203685477581}
)

// places are where a line has whole numbers, among its words by blanks and slashes.
func places(line string) []int {
	var l []int
	for i, word := range strings.FieldsFunc(line, func(c rune) bool { return c == ' ' || c == '/' }) {
		if strings.Trim(word, "-0123456789") == "" && word != "4010000000000000" {
			l = append(l, i)
		}
	}
	return l
}

// with is a line with its word number i, by blanks and slashes, turned to another.
func with(line string, i int, word string) string {
	from := 0
	for at := 0; at < i; at++ {
		from += strings.IndexAny(line[from:], " /") + 1
	}
	size := strings.IndexAny(line[from:], " /")
	if size < 0 {
		size = len(line) - from
	}
	return line[:from] + word + line[from+size:]
}

// 20.3: every word that is a whole number must be one, wherever it stands, and may be any int's.
func TestParseNumbers(t *testing.T) {
	tried := 0
	for _, x := range pairs {
		for which, line := range x {
			for _, i := range places(line) {
				tried++
				y := x
				for _, word := range bad {
					y[which] = with(line, i, word)
					e, n := api.ErrWord, 4+which
					if which == 0 && i == 0 && word == "" {
						// The line begins with a blank.
						e = api.ErrLine
					}
					wrong(t, textOf(y[0], y[1]), e, n)
				}
				for _, n := range good {
					y[which] = with(line, i, wantInt(n))
					e, at := api.OK, 0
					if strings.HasPrefix(line, "error") && n <= 0 {
						e, at = api.ErrWord, 5
					}
					wrong(t, textOf(y[0], y[1]), e, at)
					if e == api.OK && wantPrint(parsed(t, textOf(y[0], y[1]))) != textOf(y[0], y[1]) {
						t.Errorf("%q is read as %q", textOf(y[0], y[1]), wantPrint(parsed(t, textOf(y[0], y[1]))))
					}
				}
			}
		}
	}
	if tried < 150 {
		t.Fatalf("only %d places were tried", tried)
	}
}

// 20.3: a rate is sixteen digits, 0 to 9 and a to f.
func TestParseRates(t *testing.T) {
	text := func(word string) string { return textOf("0 open 1 2 3 4 5 "+word+" 6 7", "flow 8 9") }
	for _, word := range []string{
		"", "0", "4", "401000000000000", "40100000000000000", "401000000000000g", "401000000000000A", "401000000000000F", "-401000000000000", "+401000000000000",
		"0x40100000000000", "4010_00000000000", "401000000000000\xff", "4010000000000 00", "4010000000/00000", "401000000000000`", "401000000000000:", "40100000000000é", "\uff11000000000000000",
		"NaN", "4.0", strings.Repeat("0", 17), strings.Repeat("0", 32), strings.Repeat("0", 15), strings.Repeat("0", 16) + "\t",
	} {
		wrong(t, text(word), api.ErrWord, 4)
	}
	for _, bits := range []uint64{0, 1, 1 << 63, 0x4010000000000000, 0x0123456789abcdef, 0xfedcba9876543210, 0x7ff8000000000000, 0x7ff0000000000001, 0xfff0000000000000, math.MaxUint64} {
		s := text(wantRate(bits))
		x := parsed(t, s)
		if got := math.Float64bits(x.Calls[1].Params.Rate); got != bits {
			t.Errorf("%x is read as %x", bits, got)
		}
	}
}

// 20.3: as many words as a line has, and one more or less; also where they are good ones; and no empty ones.
func TestParseWords(t *testing.T) {
	for _, x := range pairs {
		for which, line := range x {
			words := strings.Split(line, " ")
			call := strings.Split(x[0], " ")[1]
			for i := range words {
				// A word less.
				y := x
				y[which] = strings.Join(slices.Delete(slices.Clone(words), i, i+1), " ")
				e, n := wantParse(textOf(y[0], y[1]))
				switch {
				case which == 0 && i > 1:
					if e != api.ErrWord {
						t.Fatalf("%q: %v", y, e)
					}
				case i == 0, which == 0:
					if e != api.ErrLine {
						t.Fatalf("%q: %v", y, e)
					}
				}
				wrong(t, textOf(y[0], y[1]), e, n)
				// An empty one more, behind this one.
				y[which] = strings.Join(slices.Insert(slices.Clone(words), i+1, ""), " ")
				e = api.ErrWord
				if which == 0 && i == 0 {
					e = api.ErrLine
				}
				wrong(t, textOf(y[0], y[1]), e, 4+which)
			}
			for _, more := range []string{"0", "1", "x", "error", "1/2/3/4/5/6", "1/2/3/4/5/6/7/8", "1/2/3/4/5", "1/2/3/4/5/6/7", "1/2/3/4/5/6/7/8/9", "1/2/3/4/5/6/", "/1/2/3/4/5/6", "1//3/4/5/6", "1/2/3/4/5/6/7/-0", "\xff"} {
				y := x
				y[which] += " " + more
				e, n := api.ErrWord, 4+which
				packet := more == "1/2/3/4/5/6" && (call == "close" || call == "send")
				departure := more == "1/2/3/4/5/6/7/8" && call == "poll"
				if which == 1 && !strings.HasPrefix(line, "error") && (packet || departure) {
					e, n = api.OK, 0
				}
				wrong(t, textOf(y[0], y[1]), e, n)
			}
		}
	}
}

// 20.3: of several faults the first line's is told.
func TestParseFirstFault(t *testing.T) {
	wrong(t, head+"0 poll\nleft x\n0 x\n", api.ErrWord, 3)
	wrong(t, head+"0 poll\nx\n00 poll\n", api.ErrLine, 3)
	wrong(t, head+"00 poll\nx\n", api.ErrWord, 2)
	wrong(t, head+"0 x\nx x\n", api.ErrLine, 2)
	wrong(t, head+"0 poll\nleft\n\n", api.ErrLine, 4)
	wrong(t, head+"\n", api.ErrLine, 2)
	wrong(t, head+"\n\n", api.ErrLine, 2)
	wrong(t, head+head, api.ErrLine, 2)
	wrong(t, head+"0 poll\n"+head, api.ErrLine, 3)
	wrong(t, head+"0 poll\n\n", api.ErrLine, 3)
	wrong(t, head+"0 poll\r\nleft\r\n", api.ErrLine, 2)
	wrong(t, head+"0 total\r\n"+zeros+"\r\n", api.ErrLine, 2)
	wrong(t, head+"0 total\n"+zeros+"\r\n", api.ErrWord, 3)
	wrong(t, head+"0 total\n"+zeros+"\n", api.OK, 0)
}

// 20.3: an error's number is above 0.
func TestParseRefusals(t *testing.T) {
	for _, x := range pairs {
		for _, word := range []string{"error", "error ", "error 0", "error -1", "error -9223372036854775808", "error 9223372036854775808", "error 01", "error 1 ", "error 1 1", "error  1", "error x"} {
			wrong(t, textOf(x[0], word), api.ErrWord, 5)
		}
		for _, word := range []string{"error 1", "error 7", "error 60", "error 9223372036854775807"} {
			wrong(t, textOf(x[0], word), api.OK, 0)
		}
	}
}

// 20.3: up to MaxText bytes and MaxLines line feeds; beyond them there is no line to be named.
func TestParseLong(t *testing.T) {
	for _, more := range []int{-1, 0, 1, 2, api.MaxText} {
		e, line := api.ErrBegin, 1
		if more > 0 {
			e, line = api.ErrLong, 0
		}
		wrong(t, strings.Repeat("x", api.MaxText+more), e, line)
		wrong(t, strings.Repeat(" ", api.MaxText+more), e, line)
		s := head + "0 poll\nleft"
		s += strings.Repeat(" 0/0/0/0/0/0/0/0", (api.MaxText-len(s))/16)
		s += strings.Repeat("x", api.MaxText+more-len(s)-1) + "\n"
		if more <= 0 {
			e, line = api.ErrWord, 3
		}
		wrong(t, s, e, line)
	}
	for _, lines := range []int{32766, 32767} {
		wrong(t, head+strings.Repeat("0 poll\nleft\n", lines), api.OK, 0)
		wrong(t, head+strings.Repeat("0 poll\nleft\n", lines)+"0 poll\n", api.ErrLine, 2*lines+3)
	}
	wrong(t, head+strings.Repeat("0 poll\nleft\n", 32768), api.ErrLong, 0)
	wrong(t, head+strings.Repeat("0 poll\nleft\n", 32767)+"0 poll\nx", api.ErrLine, 65537)
	wrong(t, strings.Repeat("\n", 65536), api.ErrBegin, 1)
	wrong(t, strings.Repeat("\n", 65537), api.ErrLong, 0)
	wrong(t, strings.Repeat("\n", 65536)+"x", api.ErrBegin, 1)
}

// mangled is a text with a few bytes, words or lines turned, taken out, put in or doubled.
func mangled(n *noise, s string) string {
	pieces := []string{" ", "\n", "/", "-", "0", "1", "9", "a", "f", "x", "\t", "\xff", "é", "poll", "error 1", "left", "seq", "0/0/0/0/0/0", "0/0/0/0/0/0/0/0", "drr/0/1/0", "9223372036854775808", "-9223372036854775808", "0 poll\nleft\n"}
	for range 1 + n.below(3) {
		at := n.below(len(s) + 1)
		to := min(len(s), at+1+n.below(1+n.below(12)))
		switch n.below(6) {
		case 0:
			s = s[:at] + s[to:]
		case 1:
			s = s[:at] + one(n, pieces...) + s[at:]
		case 2:
			s = s[:at] + one(n, pieces...) + s[to:]
		case 3:
			s = s[:to] + s[at:]
		default:
			lines := strings.SplitAfter(s, "\n")
			i, j := n.below(len(lines)), n.below(len(lines))
			switch n.below(3) {
			case 0:
				lines[i], lines[j] = lines[j], lines[i]
			case 1:
				lines = slices.Delete(lines, i, i+1)
			default:
				lines = slices.Insert(lines, i, lines[j])
			}
			s = strings.Join(lines, "")
		}
	}
	return s
}

// 20.3: what is told of a text is what the model tells, of texts that were turned at any place.
func TestParseIsTheModels(t *testing.T) {
	n := noise(2003)
	told := map[api.Errno]int{}
	for i := range 12000 {
		s := mangled(&n, wantPrint(anyTrace(&n, i%12)))
		e, line := wantParse(s)
		told[e]++
		wrong(t, s, e, line)
		if t.Failed() {
			return
		}
	}
	for _, e := range []api.Errno{api.OK, api.ErrBegin, api.ErrLine, api.ErrWord} {
		if told[e] < 500 {
			t.Errorf("%v was told %d times", e, told[e])
		}
	}
}

// 20.3: the same of texts that are nearly as short as a text can be, at each of their bytes.
func TestParseEachByte(t *testing.T) {
	for _, x := range pairs {
		s := head + x[0] + "\n" + x[1] + "\n"
		for i := range len(s) {
			for _, piece := range []string{"", " ", "  ", "\n", "/", "-", "0", "1", "x", "é"} {
				for _, y := range []string{s[:i] + piece + s[i+1:], s[:i] + piece + s[i:]} {
					e, line := wantParse(y)
					wrong(t, y, e, line)
				}
			}
		}
	}
}
