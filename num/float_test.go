package num_test

import (
	"math"
	"math/big"
	"testing"

	"millrace/num"
	"millrace/rat"
)

// numbers are those from 0 on at the ends of each exponent, and some between them.
func numbers() []float64 {
	l := []float64{0, 0x1p-1074, 0x1p-1022, math.MaxFloat64, 0.1, 1.0 / 3, math.Pi}
	var n noise
	for exponent := range uint64(0x7ff) {
		for _, low := range []uint64{0, 1, 2, 1 << 51, 1<<52 - 2, 1<<52 - 1, n.word() >> 12, n.word() >> 12} {
			l = append(l, math.Float64frombits(exponent<<52|low))
		}
	}
	return l
}

func value(a float64) *big.Rat {
	return new(big.Rat).SetFloat64(a)
}

// 3.1

func TestFromFloat(t *testing.T) {
	for _, a := range numbers() {
		x, ok := num.FromFloat(a)
		if !ok {
			t.Fatalf("FromFloat(%x) says false", a)
		}
		same(t, "FromFloat", x, value(a))
	}
	for _, c := range []struct {
		a    float64
		p, q int
	}{{0.75, 3, 4}, {0, 0, 1}, {math.Copysign(0, -1), 0, 1}, {1, 1, 1}, {150, 150, 1}, {1 << 62, 1 << 62, 1}, {0x1p-62, 1, 1 << 62}} {
		x, ok := num.FromFloat(c.a)
		if !ok || text(x) != text(small(t, c.p, c.q)) {
			t.Errorf("FromFloat(%x): %s, %v", c.a, text(x), ok)
		}
	}
}

func TestFromFloatOfNoNumber(t *testing.T) {
	wrong := []float64{math.NaN(), math.Inf(1), math.Inf(-1)}
	for _, bits := range []uint64{0x7ff0000000000001, 0x7fffffffffffffff, 0x7ff8000000000000, 0xfff0000000000001, 0xfff8000000000000, 0xffffffffffffffff} {
		wrong = append(wrong, math.Float64frombits(bits))
	}
	for _, a := range numbers() {
		if a != 0 {
			wrong = append(wrong, -a)
		}
	}
	for _, a := range wrong {
		if x, ok := num.FromFloat(a); ok || text(x) != "0/1" {
			t.Fatalf("FromFloat(%x): %s, %v", a, text(x), ok)
		}
	}
}

// 3.2

// toFloat holds ToFloat of x against what big says, bit for bit.
func toFloat(t *testing.T, name string, x *big.Rat) {
	t.Helper()
	want, _ := x.Float64()
	told := !math.IsInf(want, 1)
	if !told {
		want = 0
	}
	a, ok := num.ToFloat(of(t, x))
	if ok != told || math.Float64bits(a) != math.Float64bits(want) {
		t.Fatalf("%s: %x, %v, not %x, %v", name, a, ok, want, told)
	}
}

func TestToFloatAtItsEdges(t *testing.T) {
	least := two(-1074)
	end := minus(two(1024), two(970))
	for _, c := range []struct {
		name string
		x    *big.Rat
		want float64
		ok   bool
	}{
		{"0", new(big.Rat), 0, true},
		{"1/3", big.NewRat(1, 3), 0x1.5555555555555p-2, true},
		{"3/4", big.NewRat(3, 4), 0.75, true},
		{"2^53 + 1, a tie", plus(two(53), two(0)), 0x1p53, true},
		{"2^53 + 3, a tie", plus(two(53), big.NewRat(3, 1)), 0x1p53 + 4, true},
		{"2^53 + 1 and a little", plus(two(53), plus(two(0), two(-3000))), 0x1p53 + 2, true},
		{"2^53 + 1 less a little", plus(two(53), minus(two(0), two(-3000))), 0x1p53, true},
		{"2^-1075, a tie", two(-1075), 0, true},
		{"2^-1075 and a little", plus(two(-1075), two(-9000)), 0x1p-1074, true},
		{"2^-1075 less a little", minus(two(-1075), two(-9000)), 0, true},
		{"3 / 2^1076", times(big.NewRat(3, 1), two(-1076)), 0x1p-1074, true},
		{"2^-1074", least, 0x1p-1074, true},
		{"2^-1074 less a little", minus(least, two(-9000)), 0x1p-1074, true},
		{"3 / 2^1075, a tie", times(big.NewRat(3, 1), two(-1075)), 0x1p-1073, true},
		{"5 / 2^1075, a tie", times(big.NewRat(5, 1), two(-1075)), 0x1p-1073, true},
		{"2^-1076", two(-1076), 0, true},
		{"2^-1077", two(-1077), 0, true},
		{"far below all", two(-1 << 24), 0, true},
		{"2^-1022", two(-1022), 0x1p-1022, true},
		{"the tie below 2^-1022", minus(two(-1022), two(-1075)), 0x1p-1022, true},
		{"less than that tie", minus(two(-1022), plus(two(-1075), two(-2000))), 0x1p-1022 - 0x1p-1074, true},
		{"2^1025 / 3", times(two(1025), big.NewRat(1, 3)), 0x1.5555555555555p1023, true},
		{"the greatest", minus(two(1024), two(971)), math.MaxFloat64, true},
		{"2^1024 - 2^970 - 1", minus(end, two(0)), math.MaxFloat64, true},
		{"2^1024 - 2^970 less a little", minus(end, two(-2000)), math.MaxFloat64, true},
		{"2^1024 - 2^970", end, 0, false},
		{"2^1024 - 2^970 and a little", plus(end, two(-2000)), 0, false},
		{"2^1024 - 1", minus(two(1024), two(0)), 0, false},
		{"2^1024", two(1024), 0, false},
		{"2^1025", two(1025), 0, false},
		{"far above all", two(1 << 24), 0, false},
	} {
		a, ok := num.ToFloat(of(t, c.x))
		if ok != c.ok || math.Float64bits(a) != math.Float64bits(c.want) {
			t.Errorf("%s: %x, %v, not %x, %v", c.name, a, ok, c.want, c.ok)
		}
	}
}

// Between each number and the one above it: the tie, and what is beside it.
func TestToFloatOfTies(t *testing.T) {
	hairs := []*big.Rat{two(-1200), two(-5000)}
	for i, a := range numbers() {
		above := math.Nextafter(a, math.Inf(1))
		end := two(1024)
		if !math.IsInf(above, 1) {
			end = value(above)
		}
		tie := times(plus(value(a), end), big.NewRat(1, 2))
		hair := hairs[i%2]
		toFloat(t, "a tie", tie)
		toFloat(t, "above a tie", plus(tie, hair))
		toFloat(t, "below a tie", minus(tie, hair))
		toFloat(t, "above a number", plus(value(a), hair))
		if a > 0 {
			toFloat(t, "below a number", minus(value(a), hair))
		}
	}
}

func TestToFloatOfAny(t *testing.T) {
	var n noise
	for i := range 4000 {
		toFloat(t, "a fraction", n.fraction(1+i*2200/4000))
	}
	for p := range int64(70) {
		for q := range int64(70) {
			toFloat(t, "a small fraction", big.NewRat(p, q+1))
		}
	}
}

// 3.6

func TestNumbersThereAndBack(t *testing.T) {
	for _, a := range numbers() {
		x, _ := num.FromFloat(a)
		if b, ok := num.ToFloat(x); !ok || math.Float64bits(b) != math.Float64bits(a) {
			t.Fatalf("%x came back as %x, %v", a, b, ok)
		}
	}
	x, _ := num.FromFloat(math.Copysign(0, -1))
	if b, ok := num.ToFloat(x); !ok || math.Float64bits(b) != 0 {
		t.Errorf("-0 came back as %x, %v", b, ok)
	}
}

// 3.7

func distance(x *big.Rat, a float64) *big.Rat {
	d := minus(x, value(a))
	return d.Abs(d)
}

func TestToFloatIsNearest(t *testing.T) {
	n := noise(37)
	for range 2000 {
		x := times(n.fraction(200), two(n.below(2000)-1000))
		a, ok := num.ToFloat(of(t, x))
		if !ok {
			continue
		}
		for _, to := range []float64{0, math.MaxFloat64} {
			if b := math.Nextafter(a, to); distance(x, b).Cmp(distance(x, a)) < 0 {
				t.Fatalf("ToFloat(%s): %x, and %x is nearer", x, a, b)
			}
		}
	}
}

func TestToFloatKeepsOrder(t *testing.T) {
	n := noise(73)
	for range 2000 {
		base := value(math.Float64frombits(n.word() >> 1 % (0x7ff << 52)))
		// Steps about as great as those from number to number there, of which some tell another number and some do not.
		step := times(base, times(n.fraction(8), two(-56)))
		last := -1.0
		for i := range int64(9) {
			a, ok := num.ToFloat(of(t, plus(base, times(step, big.NewRat(i, 1)))))
			if !ok {
				break
			}
			if a < last {
				t.Fatalf("ToFloat falls from %x to %x", last, a)
			}
			last = a
		}
	}
}

// 3.8

func TestFloatsHangOnArgumentsAlone(t *testing.T) {
	var n noise
	for range 2000 {
		a := math.Float64frombits(n.word())
		x, ok := num.FromFloat(a)
		y, again := num.FromFloat(a)
		if ok != again || text(x) != text(y) || !ok && x.Cmp(rat.Rat{}) != 0 {
			t.Fatalf("FromFloat(%x): %s, %v and %s, %v", a, text(x), ok, text(y), again)
		}
		before := text(x)
		b, _ := num.ToFloat(x)
		c, _ := num.ToFloat(y)
		if math.Float64bits(b) != math.Float64bits(c) || text(x) != before {
			t.Fatalf("ToFloat(%s): %x and %x", before, b, c)
		}
	}
}
