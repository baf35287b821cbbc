package num_test

import (
	"math"
	"math/big"
	"regexp"
	"strings"
	"testing"

	"millrace/api"
	"millrace/num"
	"millrace/rat"
)

// 3.3

// forms are those that the document names: a power stands behind the first and the third alone.
var forms = regexp.MustCompile(`^(?:([0-9]+)/([0-9]+)|([0-9]+)(?:\.([0-9]+))?(?:e([+-]?)([0-9]{1,3}))?)$`)

func decimal(digits string) *big.Rat {
	x, ok := new(big.Int).SetString("0"+digits, 10)
	if !ok {
		panic(digits)
	}
	return new(big.Rat).SetInt(x)
}

// told is the fraction of a text; false, if it is none.
func told(s string) (*big.Rat, bool) {
	m := forms.FindStringSubmatch(s)
	if m == nil || len(s) > 400 {
		return nil, false
	}
	if m[2] != "" {
		below := decimal(m[2])
		if below.Sign() == 0 {
			return nil, false
		}
		return new(big.Rat).Quo(decimal(m[1]), below), true
	}
	power := int(decimal(m[6]).Num().Int64())
	if m[5] == "-" {
		power = -power
	}
	return times(decimal(m[3]+m[4]), ten(power-len(m[4]))), true
}

func parse(t *testing.T, s string) {
	t.Helper()
	x, e := num.Parse(s)
	want, ok := told(s)
	switch {
	case ok && e != api.OK:
		t.Fatalf("Parse(%q) says %d", s, int(e))
	case ok:
		same(t, "Parse("+s+")", x, want)
	case e != api.ErrNumber || text(x) != "0/1":
		t.Fatalf("Parse(%q): %s, %d", s, text(x), int(e))
	}
}

func TestParse(t *testing.T) {
	for _, c := range []struct{ s, want string }{
		{"0", "0/1"}, {"7", "7/1"}, {"007", "7/1"}, {"000", "0/1"},
		{"3/4", "3/4"}, {"0.75", "3/4"}, {"75e-2", "3/4"}, {"006/8", "3/4"}, {"6/008", "3/4"}, {"00.750", "3/4"}, {"7.5e-1", "3/4"}, {"0.0075e2", "3/4"}, {"0.0075e+002", "3/4"},
		{"0/5", "0/1"}, {"0.0", "0/1"}, {"0e999", "0/1"}, {"0.0e-999", "0/1"},
		{"1.5e+2", "150/1"}, {"1.5e2", "150/1"}, {"1.5e-2", "3/200"}, {"1e0", "1/1"}, {"1e00", "1/1"}, {"1e-000", "1/1"}, {"12.50e1", "125/1"},
		{"1e3", "1000/1"}, {"1e-3", "1/1000"},
		{"18446744073709551616", "18446744073709551616/1"}, {"18446744073709551616/4", "4611686018427387904/1"},
		{"1e999", "1" + strings.Repeat("0", 999) + "/1"}, {"1e-999", "1/1" + strings.Repeat("0", 999)},
	} {
		if x, e := num.Parse(c.s); e != api.OK || text(x) != c.want {
			t.Errorf("Parse(%q): %s, %d, not %s", c.s, text(x), int(e), c.want)
		}
	}
}

func TestParseOfNoNumber(t *testing.T) {
	for _, s := range []string{
		"", " ", "x", "e", ".", "/", "+", "-", "\x00", "\xff",
		".5", "5.", "+1", "-1", "-0", "1 ", " 1", "1\n", "1\x00", "\x001", "1_0", "0x1", "1,5", "1'000",
		"1/", "/1", "1/0", "0/0", "1/000", "1//2", "1/2/3", "1/-2", "1/+2", "-1/2", "1 /2", "1/ 2", "1/2.0", "1.0/2", "1/.5",
		"1/2e3", "1/2e", "1e2/3",
		"1e", "e1", "1e+", "1e-", "1e+-1", "1e--1", "1e1000", "1e0001", "1e+1000", "1e-0001", "1e1.5", "1e1e1", "1e 1", "1E1", "1.5E1", ".5e1", "5.e1",
		"1.2.3", "1..2", "1.+2", "1.-2", "1.2e", "1.2e+", "1.2e1000", "1.2/3",
		"NaN", "Inf", "inf", "∞", "١", "½", "1½", "１", "1e١", "1/١", "1.١", "1p3", "1f",
	} {
		if x, e := num.Parse(s); e != api.ErrNumber || text(x) != "0/1" {
			t.Errorf("Parse(%q): %s, %d", s, text(x), int(e))
		}
	}
}

func TestParseOfAllShortTexts(t *testing.T) {
	const bytes = "05/.e+-x"
	var longer func(s string)
	longer = func(s string) {
		parse(t, s)
		if len(s) == 6 {
			return
		}
		for i := range len(bytes) {
			longer(s + bytes[i:i+1])
		}
	}
	longer("")
}

func TestParseOfAllBytes(t *testing.T) {
	for _, s := range []string{"12", "1/2", "1.5", "1.5e1", "1e-12"} {
		for i := range len(s) {
			for b := range 256 {
				parse(t, s[:i]+string([]byte{byte(b)})+s[i+1:])
				parse(t, s[:i]+string([]byte{byte(b)})+s[i:])
			}
		}
	}
}

func TestParseOfLongTexts(t *testing.T) {
	nines := strings.Repeat("9", 500)
	noughts := strings.Repeat("0", 500)
	for _, length := range []int{398, 399, 400, 401, 402, 500} {
		for _, s := range []string{
			nines[:length], noughts[:length-1] + "7", "7" + noughts[:length-1],
			nines[:length/2] + "/" + nines[:length-length/2-1],
			"1/" + nines[:length-2], nines[:length-2] + "/7", noughts[:length-2] + "/0",
			"0." + nines[:length-2], nines[:length-2] + ".5", "0." + noughts[:length-3] + "1",
			nines[:length-4] + "e999", "0." + noughts[:length-8] + "1e-999", nines[:length-5] + "e-123",
		} {
			_, e := num.Parse(s)
			if over0 := strings.HasSuffix(s, "/0"); len(s) != length || (e == api.OK) != (length <= 400 && !over0) {
				t.Errorf("Parse of %d bytes, %s..: %d", len(s), s[:5], int(e))
			}
			parse(t, s)
		}
	}
}

func TestParseOfAnyTexts(t *testing.T) {
	var n noise
	digits := func(most int) string {
		s := make([]byte, 1+n.below(most))
		for i := range s {
			s[i] = byte('0' + n.below(10))
		}
		return string(s)
	}
	for range 3000 {
		most := []int{3, 25, 190}[n.below(3)]
		s := digits(most)
		switch n.below(3) {
		case 0:
			s += "/" + digits(most)
		case 1:
			s += "." + digits(most)
		}
		if n.below(2) == 0 {
			s += "e" + []string{"", "+", "-"}[n.below(3)] + digits(4)
		}
		parse(t, s)
	}
}

// 3.4

func TestFormat(t *testing.T) {
	for _, c := range []struct {
		p, q int
		want string
	}{{6, 8, "3/4"}, {0, 1, "0"}, {0, 9, "0"}, {1, 1, "1"}, {150, 1, "150"}, {300, 2, "150"}, {1, 2, "1/2"}, {5, 2, "5/2"}, {math.MaxInt64, 1, "9223372036854775807"}, {1, math.MaxInt64, "1/9223372036854775807"}} {
		if s := num.Format(small(t, c.p, c.q)); s != c.want {
			t.Errorf("Format(%d/%d): %s, not %s", c.p, c.q, s, c.want)
		}
	}
	if s := num.Format(rat.Rat{}); s != "0" {
		t.Errorf("Format of the zero value: %s", s)
	}
	var n noise
	for i := range 500 {
		x := n.fraction(1 + i*8)
		if s := num.Format(of(t, x)); s != x.RatString() {
			t.Fatalf("Format: %s, not %s", s, x.RatString())
		}
	}
}

// 3.5

// rounded is x with so many places behind the point, by one look at what is left.
func rounded(x *big.Rat, places int) string {
	scaled := times(x, ten(places))
	whole, rest := new(big.Int).QuoRem(scaled.Num(), scaled.Denom(), new(big.Int))
	half := new(big.Int).Lsh(rest, 1).Cmp(scaled.Denom())
	if half > 0 || half == 0 && whole.Bit(0) == 1 {
		whole.Add(whole, big.NewInt(1))
	}
	s := whole.String()
	for len(s) < places+1 {
		s = "0" + s
	}
	if places == 0 {
		return s
	}
	return s[:len(s)-places] + "." + s[len(s)-places:]
}

func TestDecimal(t *testing.T) {
	for _, c := range []struct {
		p, q, places int
		want         string
	}{
		{1, 8, 2, "0.12"}, {3, 8, 2, "0.38"}, {1, 3, 0, "0"}, {2, 3, 0, "1"}, {1, 2, 0, "0"}, {3, 2, 0, "2"}, {5, 2, 0, "2"}, {7, 2, 0, "4"},
		{0, 1, 0, "0"}, {0, 1, 1, "0.0"}, {0, 1, 3, "0.000"}, {1, 1, 2, "1.00"}, {150, 1, 0, "150"}, {150, 1, 1, "150.0"},
		{999, 1000, 2, "1.00"}, {9995, 10, 0, "1000"}, {9985, 10, 0, "998"}, {19, 2, 0, "10"}, {99999, 1000, 2, "100.00"},
		{1, 1000, 2, "0.00"}, {5, 1000, 2, "0.00"}, {15, 1000, 2, "0.02"}, {5001, 1000000, 2, "0.01"}, {1, 100, 2, "0.01"}, {1, 7, 6, "0.142857"}, {22, 7, 3, "3.143"},
		{1, 1, 100, "1." + strings.Repeat("0", 100)}, {1, 3, 100, "0." + strings.Repeat("3", 100)}, {2, 3, 100, "0." + strings.Repeat("6", 99) + "7"}, {math.MaxInt64, 1, 0, "9223372036854775807"},
	} {
		if s, ok := num.Decimal(small(t, c.p, c.q), c.places); !ok || s != c.want {
			t.Errorf("Decimal(%d/%d, %d): %q, %v, not %s", c.p, c.q, c.places, s, ok, c.want)
		}
	}
}

func TestDecimalOfWrongPlaces(t *testing.T) {
	for _, x := range []rat.Rat{{}, small(t, 1, 1), small(t, 1, 3)} {
		for _, places := range []int{-1, -2, -100, math.MinInt, 101, 102, 1 << 40, math.MaxInt} {
			if s, ok := num.Decimal(x, places); ok || s != "" {
				t.Errorf("Decimal(%s, %d): %q, %v", text(x), places, s, ok)
			}
		}
	}
}

func TestDecimalOfAny(t *testing.T) {
	var n noise
	for i := range 2000 {
		x, places := n.fraction(1+i/4), n.below(101)
		if i%3 == 0 {
			// A tie of that many places.
			x = times(new(big.Rat).SetInt(n.number(1+i/8)), times(ten(-places), big.NewRat(1, 2)))
		}
		if s, ok := num.Decimal(of(t, x), places); !ok || s != rounded(x, places) {
			t.Fatalf("Decimal(%s, %d): %s, %v, not %s", x, places, s, ok, rounded(x, places))
		}
	}
}

// 3.6

func TestTextsThereAndBack(t *testing.T) {
	n := noise(36)
	for i := range 1000 {
		x := n.fraction(1 + i%660)
		s := num.Format(of(t, x))
		if len(s) > 400 {
			t.Fatalf("a text of %d bytes", len(s))
		}
		y, e := num.Parse(s)
		if e != api.OK {
			t.Fatalf("Parse(%s) says %d", s, int(e))
		}
		same(t, "Parse(Format)", y, x)
	}
	// Of 400 bytes and of 401.
	for bytes := range 2 {
		x := new(big.Rat).SetFrac(new(big.Int).Add(ten(199).Num(), big.NewInt(3)), ten(198+bytes).Num())
		s := num.Format(of(t, x))
		y, e := num.Parse(s)
		if len(s) != 400+bytes || (e == api.OK) != (bytes == 0) || (y.Cmp(of(t, x)) == 0) != (bytes == 0) {
			t.Errorf("%d bytes: %s, %d", len(s), text(y), int(e))
		}
	}
}

func TestTextsOfOneValueAreOneFraction(t *testing.T) {
	for _, l := range [][]string{
		{"0", "00", "0/1", "0/77", "0.0", "0e5", "0.000e-9"},
		{"1", "1/1", "7/7", "1.0", "10e-1", "0.1e1", "0.1e+01", "100e-2"},
		{"5/2", "2.5", "25e-1", "0.25e1", "250/100", "02.50"},
		{"1000", "1e3", "1e+3", "1e003", "1.0e3", "1000/1", "0.001e6"},
		{"1/1000", "1e-3", "0.001", "0.1e-2", "10/10000"},
	} {
		for _, s := range l {
			x, e := num.Parse(l[0])
			y, f := num.Parse(s)
			if e != api.OK || f != api.OK || text(x) != text(y) || x.Cmp(y) != 0 || num.Format(x) != num.Format(y) {
				t.Errorf("%s and %s: %s and %s", l[0], s, text(x), text(y))
			}
		}
	}
}

// 3.7

func TestDecimalIsNearest(t *testing.T) {
	n := noise(37)
	for range 1000 {
		x, places := n.fraction(64), n.below(12)
		s, _ := num.Decimal(of(t, x), places)
		told, ok := told(s)
		if !ok {
			t.Fatalf("%q is no text of a number", s)
		}
		off := new(big.Rat).Abs(minus(x, told))
		if off.Cmp(times(ten(-places), big.NewRat(1, 2))) > 0 {
			t.Fatalf("Decimal(%s, %d): %s is not nearest", x, places, s)
		}
	}
}

func TestDecimalKeepsOrder(t *testing.T) {
	for q := 1; q < 40; q++ {
		for places := range 4 {
			last := new(big.Rat)
			for p := range 4 * q {
				s, _ := num.Decimal(small(t, p, q), places)
				next, ok := told(s)
				if !ok || next.Cmp(last) < 0 {
					t.Fatalf("Decimal(%d/%d, %d) falls from %s to %s", p, q, places, last, s)
				}
				last = next
			}
		}
	}
}

// 3.8

func TestTextsOfAnyBytes(t *testing.T) {
	var n noise
	for range 20000 {
		b := make([]byte, n.below(12))
		for i := range b {
			if b[i] = byte(n.word()); n.below(8) > 0 {
				b[i] = "0123456789/.e+-"[n.below(15)]
			}
		}
		parse(t, string(b))
		x, e := num.Parse(string(b))
		y, f := num.Parse(string(b))
		if e != f || text(x) != text(y) || num.Format(x) != num.Format(y) {
			t.Fatalf("Parse(%q): %s, %d and %s, %d", b, text(x), int(e), text(y), int(f))
		}
	}
	if _, e := num.Parse(strings.Repeat("1", 1<<24)); e != api.ErrNumber {
		t.Errorf("Parse of 2^24 bytes: %d", int(e))
	}
}

func TestTextsOfFarFractions(t *testing.T) {
	far := two(1 << 16)
	x, back := of(t, far), of(t, new(big.Rat).Inv(far))
	if s := num.Format(x); s != far.RatString() {
		t.Error("Format of 2^65536")
	}
	if s := num.Format(back); s != "1/"+far.RatString() {
		t.Error("Format of 2^-65536")
	}
	if s, ok := num.Decimal(x, 2); !ok || s != far.RatString()+".00" {
		t.Error("Decimal of 2^65536")
	}
	if s, ok := num.Decimal(back, 2); !ok || s != "0.00" {
		t.Error("Decimal of 2^-65536")
	}
}
