package rat_test

import (
	"bytes"
	"math"
	"math/big"
	"testing"

	"millrace/nat"
	"millrace/rat"
)

// noise gives the same words in every run.
type noise uint64

func (n *noise) word() uint64 {
	*n += 0x9e3779b97f4a7c15
	z := uint64(*n)
	z = (z ^ z>>30) * 0xbf58476d1ce4e5b9
	z = (z ^ z>>27) * 0x94d049bb133111eb
	return z ^ z>>31
}

func (n *noise) below(bound int) int {
	return int(n.word() % uint64(bound))
}

// number has at most so many bits.
func (n *noise) number(bits int) *big.Int {
	x := new(big.Int)
	for range bits/64 + 1 {
		x.Lsh(x, 64).Or(x, new(big.Int).SetUint64(n.word()))
	}
	return x.Rsh(x, uint(x.BitLen()-min(x.BitLen(), bits)))
}

// fraction has parts of small primes, so that there is something to divide out, or parts of any kind.
func (n *noise) fraction(bits int) *big.Rat {
	p, q := n.number(n.below(bits+1)), n.number(n.below(bits+1))
	if n.below(2) == 0 {
		p, q = big.NewInt(int64(n.below(9))), big.NewInt(1)
		for range n.below(bits/2 + 1) {
			prime := big.NewInt([]int64{2, 3, 5, 7}[n.below(4)])
			if n.below(2) == 0 {
				p.Mul(p, prime)
			} else {
				q.Mul(q, prime)
			}
		}
	}
	if q.Sign() == 0 {
		q.SetInt64(1)
	}
	return new(big.Rat).SetFrac(p, q)
}

// samples are 0, small fractions, those beside the ends of ints and words, and some with parts of up to 2,048 bits and more.
func samples() []*big.Rat {
	l := []*big.Rat{new(big.Rat)}
	for _, q := range []int64{1, 2, 3, 4, 6, 7, 12} {
		for _, p := range []int64{1, 2, 3, 5, 6, 12, 35} {
			l = append(l, big.NewRat(p, q))
		}
	}
	for _, bits := range []uint{31, 32, 62, 63, 64, 65, 128, 2048} {
		for d := range int64(3) {
			edge := new(big.Int).Lsh(big.NewInt(1), bits)
			edge.Add(edge, big.NewInt(d-1))
			whole := new(big.Rat).SetInt(edge)
			l = append(l, whole, new(big.Rat).Inv(whole), new(big.Rat).Quo(whole, big.NewRat(6, 1)))
		}
	}
	var n noise
	for _, bits := range []int{5, 10, 30, 60, 64, 65, 100, 200, 500, 1000, 2048, 3000} {
		l = append(l, n.fraction(bits), n.fraction(bits))
	}
	return l
}

func natOf(x *big.Int) nat.Nat {
	return nat.FromBytes(x.Bytes())
}

func of(t *testing.T, x *big.Rat) rat.Rat {
	t.Helper()
	r, ok := rat.From(natOf(x.Num()), natOf(x.Denom()))
	if !ok {
		t.Fatalf("From(%s) says false", x)
	}
	return r
}

func small(t *testing.T, p, q int) rat.Rat {
	t.Helper()
	r, ok := rat.Of(p, q)
	if !ok {
		t.Fatalf("Of(%d, %d) says false", p, q)
	}
	return r
}

// text is r's parts, told as they are: no other form of r has the same text.
func text(r rat.Rat) string {
	p, q := r.Parts()
	return p.Text() + "/" + q.Text()
}

func is(t *testing.T, name string, r rat.Rat, want string) {
	t.Helper()
	if got := text(r); got != want {
		t.Errorf("%s: %s, not %s", name, got, want)
	}
}

// same holds r's parts against those of want, which big keeps in lowest terms.
func same(t *testing.T, name string, r rat.Rat, want *big.Rat) {
	t.Helper()
	p, q := r.Parts()
	if !bytes.Equal(p.Bytes(), want.Num().Bytes()) || !bytes.Equal(q.Bytes(), want.Denom().Bytes()) {
		t.Fatalf("%s: %s, not %s", name, text(r), want)
	}
}

// sameOr is same where ok is wanted, and asks for 0 and false where it is not.
func sameOr(t *testing.T, name string, r rat.Rat, ok, wantOk bool, want *big.Rat) {
	t.Helper()
	if ok != wantOk {
		t.Fatalf("%s: %v", name, ok)
	}
	if !ok {
		want = new(big.Rat)
	}
	same(t, name, r, want)
}

// 2.1

func TestOf(t *testing.T) {
	is(t, "Of(6, 4)", small(t, 6, 4), "3/2")
	is(t, "Of(0, 7)", small(t, 0, 7), "0/1")
	ends := []int{0, 1, 2, 3, 4, 6, 7, 12, 1 << 32, 1 << 62, math.MaxInt - 1, math.MaxInt}
	for _, p := range ends {
		for _, q := range ends[1:] {
			same(t, "Of", small(t, p, q), big.NewRat(int64(p), int64(q)))
		}
	}
}

func TestOfRefuses(t *testing.T) {
	for _, p := range []int{math.MinInt, math.MinInt + 1, -2, -1, 0, 1, 2, math.MaxInt} {
		for _, q := range []int{math.MinInt, -2, -1, 0, 1, 2, math.MaxInt} {
			r, ok := rat.Of(p, q)
			if ok != (p >= 0 && q >= 1) {
				t.Errorf("Of(%d, %d): %v", p, q, ok)
			}
			if !ok {
				is(t, "beside a false", r, "0/1")
			}
		}
	}
}

func TestFrom(t *testing.T) {
	var n noise
	for _, x := range samples() {
		for _, bits := range []int{0, 1, 9, 64, 300} {
			by := n.number(bits)
			if by.Sign() == 0 {
				by.SetInt64(1)
			}
			p, q := new(big.Int).Mul(x.Num(), by), new(big.Int).Mul(x.Denom(), by)
			r, ok := rat.From(natOf(p), natOf(q))
			sameOr(t, "From", r, ok, true, x)
		}
		r, ok := rat.From(natOf(x.Num()), nat.Nat{})
		sameOr(t, "over 0", r, ok, false, nil)
		r, ok = rat.From(natOf(x.Num()), nat.Of(0))
		sameOr(t, "over 0", r, ok, false, nil)
	}
}

// 2.2

func TestParts(t *testing.T) {
	is(t, "the zero value", rat.Rat{}, "0/1")
	for p := range 61 {
		for q := 1; q <= 60; q++ {
			above, below := small(t, p, q).Parts()
			a, _ := above.Uint()
			b, _ := below.Uint()
			if a*uint64(q) != b*uint64(p) || nat.Gcd(above, below).Cmp(nat.Of(1)) != 0 {
				t.Errorf("%d/%d: %d/%d", p, q, a, b)
			}
		}
	}
}

// TestOneZero: whichever way 0 was come by, its parts are 0 and 1, and it is reckoned with as the zero value is.
func TestOneZero(t *testing.T) {
	x := small(t, 7, 12)
	less, _ := x.Sub(x)
	quotient, _ := rat.Rat{}.Div(x)
	times, _ := x.MulInt(0)
	divided, _ := rat.Rat{}.DivInt(5)
	long, _ := rat.From(nat.Of(0), nat.Of(12345))
	for _, zero := range []rat.Rat{{}, less, quotient, times, divided, long, small(t, 0, 9), x.Mul(rat.Rat{}), rat.Rat{}.Mul(x), rat.Sum(), rat.Rat{}.Add(rat.Rat{}), rat.Between(rat.Rat{}, x)} {
		is(t, "0", zero, "0/1")
		is(t, "0 + x", zero.Add(x), "7/12")
		is(t, "x + 0", x.Add(zero), "7/12")
		is(t, "0 x", zero.Mul(x), "0/1")
		back, ok := x.Sub(zero)
		is(t, "x - 0", back, "7/12")
		if _, no := zero.Sub(x); !ok || no || zero.Cmp(rat.Rat{}) != 0 || zero.Cmp(x) != -1 || x.Cmp(zero) != 1 {
			t.Error("0 is held wrongly against others")
		}
		if _, no := x.Div(zero); no {
			t.Error("x over 0 is true")
		}
		if n, ok := zero.Int(); n != 0 || !ok || zero.Floor().Len() != 0 || zero.Ceil().Len() != 0 {
			t.Error("0 is not whole")
		}
	}
}

// 2.3

func TestCmp(t *testing.T) {
	l := samples()
	for _, x := range l {
		for _, y := range l {
			if got := of(t, x).Cmp(of(t, y)); got != x.Cmp(y) {
				t.Fatalf("%s and %s: %d", x, y, got)
			}
		}
	}
	half := small(t, 1, 2)
	if half.Cmp(small(t, 3, 6)) != 0 || half.Cmp(small(t, 1, 3)) != 1 || small(t, 1, 3).Cmp(half) != -1 {
		t.Error("1/2 and 1/3")
	}
}

// TestCmpOfNeighbours: fractions that differ by as little as their denominators allow.
func TestCmpOfNeighbours(t *testing.T) {
	var n noise = 3
	for range 200 {
		q := n.number(1 + n.below(400))
		q.Add(q, big.NewInt(1))
		more := new(big.Int).Add(q, big.NewInt(1))
		x, y := new(big.Rat).SetFrac(big.NewInt(1), q), new(big.Rat).SetFrac(big.NewInt(1), more)
		if of(t, x).Cmp(of(t, y)) != 1 || of(t, y).Cmp(of(t, x)) != -1 {
			t.Fatalf("1/%s and 1/%s", q, more)
		}
	}
}

// 2.4

func TestFourKinds(t *testing.T) {
	l := samples()
	for _, x := range l {
		for _, y := range l {
			r, s := of(t, x), of(t, y)
			same(t, "Add", r.Add(s), new(big.Rat).Add(x, y))
			same(t, "Mul", r.Mul(s), new(big.Rat).Mul(x, y))
			rest, ok := r.Sub(s)
			sameOr(t, "Sub", rest, ok, x.Cmp(y) >= 0, new(big.Rat).Sub(x, y))
			quotient, ok := r.Div(s)
			if y.Sign() == 0 {
				sameOr(t, "Div by 0", quotient, ok, false, nil)
				continue
			}
			sameOr(t, "Div", quotient, ok, true, new(big.Rat).Quo(x, y))
		}
	}
}

func TestFourKindsOfMany(t *testing.T) {
	var n noise = 17
	for range 3000 {
		x, y := n.fraction(1+n.below(200)), n.fraction(1+n.below(200))
		r, s := of(t, x), of(t, y)
		same(t, "Add", r.Add(s), new(big.Rat).Add(x, y))
		same(t, "Mul", r.Mul(s), new(big.Rat).Mul(x, y))
		rest, ok := r.Sub(s)
		sameOr(t, "Sub", rest, ok, x.Cmp(y) >= 0, new(big.Rat).Sub(x, y))
		if y.Sign() != 0 {
			quotient, ok := r.Div(s)
			sameOr(t, "Div", quotient, ok, true, new(big.Rat).Quo(x, y))
		}
	}
}

func TestFourKindsExamples(t *testing.T) {
	half, third, two := small(t, 1, 2), small(t, 1, 3), small(t, 2, 3)
	is(t, "1/2 + 1/3", half.Add(third), "5/6")
	rest, ok := half.Sub(third)
	is(t, "1/2 - 1/3", rest, "1/6")
	less, no := third.Sub(half)
	is(t, "1/3 - 1/2", less, "0/1")
	if !ok || no {
		t.Errorf("Sub: %v, %v", ok, no)
	}
	is(t, "2/3 * 9/4", two.Mul(small(t, 9, 4)), "3/2")
	quotient, ok := two.Div(small(t, 4, 9))
	is(t, "2/3 over 4/9", quotient, "3/2")
	none, no := two.Div(rat.Rat{})
	is(t, "2/3 over 0", none, "0/1")
	if !ok || no {
		t.Errorf("Div: %v, %v", ok, no)
	}
}

// 2.5

func TestInts(t *testing.T) {
	for _, x := range samples() {
		r := of(t, x)
		for _, n := range []int{math.MinInt, -7, -1, 0, 1, 2, 3, 6, 10, 35, 4096, 1 << 32, math.MaxInt} {
			y := new(big.Rat).SetInt64(int64(n))
			times, ok := r.MulInt(n)
			sameOr(t, "MulInt", times, ok, n >= 0, new(big.Rat).Mul(x, y))
			over, ok := r.DivInt(n)
			if n == 0 {
				sameOr(t, "DivInt(0)", over, ok, false, nil)
				continue
			}
			sameOr(t, "DivInt", over, ok, n > 0, new(big.Rat).Quo(x, y))
		}
	}
	times, _ := small(t, 5, 6).MulInt(3)
	is(t, "5/6 times 3", times, "5/2")
	over, _ := small(t, 5, 6).DivInt(10)
	is(t, "5/6 over 10", over, "1/12")
}

// 2.6

func TestFloorAndCeil(t *testing.T) {
	for _, x := range samples() {
		floor, rest := new(big.Int).DivMod(x.Num(), x.Denom(), new(big.Int))
		ceil := floor
		if rest.Sign() != 0 {
			ceil = new(big.Int).Add(floor, big.NewInt(1))
		}
		r := of(t, x)
		if r.Floor().Cmp(natOf(floor)) != 0 || r.Ceil().Cmp(natOf(ceil)) != 0 {
			t.Errorf("%s: %s, %s", x, r.Floor().Text(), r.Ceil().Text())
		}
	}
	for _, c := range []struct {
		p, q        int
		floor, ceil string
	}{{7, 2, "3", "4"}, {3, 1, "3", "3"}, {9, 3, "3", "3"}, {0, 5, "0", "0"}, {1, math.MaxInt, "0", "1"}, {math.MaxInt, 2, "4611686018427387903", "4611686018427387904"}, {math.MaxInt, 1, "9223372036854775807", "9223372036854775807"}} {
		r := small(t, c.p, c.q)
		if r.Floor().Text() != c.floor || r.Ceil().Text() != c.ceil {
			t.Errorf("%d/%d: %s, %s", c.p, c.q, r.Floor().Text(), r.Ceil().Text())
		}
	}
}

func TestInt(t *testing.T) {
	most := big.NewInt(math.MaxInt64)
	for _, x := range samples() {
		fits := x.IsInt() && x.Num().Cmp(most) <= 0
		want := 0
		if fits {
			want = int(x.Num().Int64())
		}
		if got, ok := of(t, x).Int(); got != want || ok != fits {
			t.Errorf("%s: %d, %v", x, got, ok)
		}
	}
	for _, c := range []struct {
		p, q uint64
		want int
		ok   bool
	}{{7, 2, 0, false}, {9, 1, 9, true}, {18, 2, 9, true}, {0, 3, 0, true}, {1<<63 - 1, 1, math.MaxInt, true}, {1 << 63, 1, 0, false}, {1 << 63, 2, 1 << 62, true}, {math.MaxUint64, 1, 0, false}, {math.MaxUint64, 2, 0, false}, {1<<63 - 1, 2, 0, false}} {
		r, _ := rat.From(nat.Of(c.p), nat.Of(c.q))
		if got, ok := r.Int(); got != c.want || ok != c.ok {
			t.Errorf("%d/%d: %d, %v", c.p, c.q, got, ok)
		}
	}
	long, _ := nat.Of(5).Left(64)
	r, _ := rat.From(long, nat.Of(1))
	if got, ok := r.Int(); got != 0 || ok {
		t.Errorf("5 * 2^64: %d, %v", got, ok)
	}
}

// 2.7

func TestSum(t *testing.T) {
	half, third, sixth := small(t, 1, 2), small(t, 1, 3), small(t, 1, 6)
	is(t, "of none", rat.Sum(), "0/1")
	is(t, "of a nil list", rat.Sum([]rat.Rat(nil)...), "0/1")
	is(t, "of an empty list", rat.Sum([]rat.Rat{}...), "0/1")
	is(t, "of one", rat.Sum(third), "1/3")
	is(t, "of three", rat.Sum(half, third, sixth), "1/1")
	is(t, "of the same", rat.Sum(third, third, third, third), "4/3")
	is(t, "with 0 among them", rat.Sum(rat.Rat{}, half, rat.Rat{}), "1/2")
	var n noise = 5
	for count := range 60 {
		want := new(big.Rat)
		var l []rat.Rat
		for range count {
			x := n.fraction(1 + n.below(90))
			l = append(l, of(t, x))
			want.Add(want, x)
		}
		same(t, "of a list", rat.Sum(l...), want)
	}
}

// TestSumLeavesItsList: nor does it write behind the list's end.
func TestSumLeavesItsList(t *testing.T) {
	l := []rat.Rat{small(t, 1, 2), small(t, 2, 3), small(t, 3, 4), small(t, 4, 5)}
	is(t, "of the first two", rat.Sum(l[:2]...), "7/6")
	for i, want := range []string{"1/2", "2/3", "3/4", "4/5"} {
		is(t, "the list", l[i], want)
	}
}

// TestSumOfAHarmonicList: a thousand denominators, of which most have something in common with what was summed so far.
func TestSumOfAHarmonicList(t *testing.T) {
	want := new(big.Rat)
	var l []rat.Rat
	for q := 1; q <= 1000; q++ {
		l = append(l, small(t, 1, q))
		want.Add(want, big.NewRat(1, int64(q)))
	}
	same(t, "1 + 1/2 + .. + 1/1000", rat.Sum(l...), want)
}
