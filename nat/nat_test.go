package nat_test

import (
	"bytes"
	"math"
	"math/big"
	"strings"
	"testing"

	"millrace/api"
	"millrace/nat"
)

// noise gives the same words in every run.
type noise uint64

func (n *noise) word() uint64 {
	*n += 0x9e3779b97f4a7c15
	z := uint64(*n)
	z = (z ^ z>>30) * 0xbf58476d1ce4e5b9
	z = (z ^ z>>27) * 0x94d049bb133111eb
	return z ^ z>>31
}

func (n *noise) below(bound int) int {
	return int(n.word() % uint64(bound))
}

// number has so many words; each is any word, or one of those at which carries and guessed digits go wrong first.
func (n *noise) number(words int) *big.Int {
	edges := []uint64{0, 1, 2, 1<<63 - 1, 1 << 63, 1<<63 + 1, math.MaxUint64 - 1, math.MaxUint64}
	plain := n.below(3) == 0
	x := new(big.Int)
	for range words {
		w := n.word()
		if !plain && n.below(4) != 0 {
			w = edges[n.below(len(edges))]
		}
		x.Lsh(x, 64).Or(x, new(big.Int).SetUint64(w))
	}
	return x
}

// power is 2^n + d.
func power(n int, d int64) *big.Int {
	x := new(big.Int).Lsh(big.NewInt(1), uint(n))
	return x.Add(x, big.NewInt(d))
}

// samples are small numbers, those beside powers of 2, and some of each length up to a few hundred words.
func samples() []*big.Int {
	var l []*big.Int
	for i := range int64(13) {
		l = append(l, big.NewInt(i))
	}
	for _, n := range []int{8, 16, 31, 32, 33, 63, 64, 65, 127, 128, 129, 192, 256, 2048} {
		l = append(l, power(n, -1), power(n, 0), power(n, 1))
	}
	var n noise
	for _, words := range []int{1, 1, 2, 2, 3, 3, 4, 5, 7, 12, 20, 33, 64, 99, 130, 201, 350} {
		l = append(l, n.number(words))
	}
	return l
}

func of(x *big.Int) nat.Nat {
	return nat.FromBytes(x.Bytes())
}

func same(t *testing.T, name string, got nat.Nat, want *big.Int) {
	t.Helper()
	if !bytes.Equal(got.Bytes(), want.Bytes()) {
		t.Fatalf("%s: %x, not %x", name, got.Bytes(), want.Bytes())
	}
}

// 1.1

func TestOf(t *testing.T) {
	for _, n := range []uint64{0, 1, 255, 256, 65535, 65536, 1<<32 - 1, 1 << 32, 1 << 63, math.MaxUint64 - 1, math.MaxUint64} {
		same(t, "Of", nat.Of(n), new(big.Int).SetUint64(n))
		if got, ok := nat.Of(n).Uint(); got != n || !ok {
			t.Errorf("Of(%d).Uint(): %d, %v", n, got, ok)
		}
	}
}

func TestBytes(t *testing.T) {
	for _, x := range []struct{ in, out string }{
		{"", ""}, {"\x00", ""}, {"\x00\x00\x00", ""}, {strings.Repeat("\x00", 30), ""},
		{"\x01", "\x01"}, {"\x00\x00\x01", "\x01"}, {"\x01\x00", "\x01\x00"}, {"\x00\xff\x00", "\xff\x00"},
		{"\x01\x02\x03\x04\x05\x06\x07\x08", "\x01\x02\x03\x04\x05\x06\x07\x08"},
		{"\x01\x02\x03\x04\x05\x06\x07\x08\x09", "\x01\x02\x03\x04\x05\x06\x07\x08\x09"},
		{"\x00" + "\x80" + strings.Repeat("\x00", 16), "\x80" + strings.Repeat("\x00", 16)},
	} {
		if got := nat.FromBytes([]byte(x.in)).Bytes(); string(got) != x.out {
			t.Errorf("FromBytes(%x).Bytes(): %x, not %x", x.in, got, x.out)
		}
	}
	if n := len(nat.FromBytes(nil).Bytes()) + len(nat.Of(0).Bytes()) + len(nat.Nat{}.Bytes()); n != 0 {
		t.Errorf("0 has %d bytes", n)
	}
	if b := nat.Of(256).Bytes(); string(b) != "\x01\x00" {
		t.Errorf("Of(256).Bytes(): %x", b)
	}
	if got, ok := nat.FromBytes([]byte{0, 1, 2, 3, 4, 5, 6, 7, 8}).Uint(); got != 0x0102030405060708 || !ok {
		t.Errorf("the highest byte is not first: %x, %v", got, ok)
	}
}

func TestBytesOfAllLengths(t *testing.T) {
	var n noise
	for size := range 70 {
		b := make([]byte, size)
		for i := range b {
			b[i] = byte(n.word())
		}
		for range 2 {
			want := bytes.TrimLeft(b, "\x00")
			if got := nat.FromBytes(b).Bytes(); !bytes.Equal(got, want) {
				t.Errorf("%x: %x", b, got)
			}
			clear(b[:size/2])
		}
	}
}

// 1.2

func TestParse(t *testing.T) {
	long := strings.Repeat("9", api.MaxDigits)
	for _, x := range []struct{ in, out string }{
		{"0", "0"}, {"00", "0"}, {"7", "7"}, {"007", "7"}, {"10", "10"}, {"1234567890", "1234567890"},
		{"9999999999999999999", "9999999999999999999"}, {"10000000000000000000", "10000000000000000000"},
		{"18446744073709551615", "18446744073709551615"}, {"18446744073709551616", "18446744073709551616"},
		{"340282366920938463463374607431768211456", "340282366920938463463374607431768211456"},
		{long, long}, {strings.Repeat("0", api.MaxDigits), "0"}, {strings.Repeat("0", api.MaxDigits-1) + "5", "5"},
		{"1" + strings.Repeat("0", api.MaxDigits-1), "1" + strings.Repeat("0", api.MaxDigits-1)},
	} {
		got, ok := nat.Parse(x.in)
		if !ok || got.Text() != x.out {
			t.Errorf("Parse(%s): %s, %v", x.in, got.Text(), ok)
		}
		want, _ := new(big.Int).SetString(x.in, 10)
		same(t, x.in, got, want)
	}
}

func TestParseRefuses(t *testing.T) {
	bad := []string{
		"", " ", "-", "+", "-1", "+1", "1 ", " 1", "1\n", "1 2", "1.0", "1e3", "0x1", "1_000", "1,000", "a", "1a", "a1", "--",
		"\x00", "1\x00", "\u0661", "\uff11", "1\u0662", "\xff",
		strings.Repeat("9", api.MaxDigits+1), strings.Repeat("0", api.MaxDigits+1), strings.Repeat("1", 5000),
		strings.Repeat("1", api.MaxDigits-1) + "x", "x" + strings.Repeat("1", api.MaxDigits-1),
	}
	for c := range 256 {
		if c < '0' || c > '9' {
			one := string([]byte{byte(c)})
			bad = append(bad, one, one+"12", "1"+one+"2", "12"+one)
		}
	}
	for _, s := range bad {
		if got, ok := nat.Parse(s); ok || got.Len() != 0 {
			t.Errorf("Parse(%q): %s, %v", s, got.Text(), ok)
		}
	}
}

func TestText(t *testing.T) {
	if s := (nat.Nat{}).Text() + nat.Of(0).Text() + nat.FromBytes([]byte{0}).Text(); s != "000" {
		t.Errorf("0 is %s", s)
	}
	l := samples()
	ten := big.NewInt(10)
	for n := range int64(45) {
		p := new(big.Int).Exp(ten, big.NewInt(n), nil)
		l = append(l, p, new(big.Int).Sub(p, big.NewInt(1)), new(big.Int).Add(p, big.NewInt(1)))
	}
	for _, n := range []int64{760, 779, 1216, 1217, 2432, 4864, 4865, 9728, 12345} { // about the chunks' powers that long numbers are cut at
		p := new(big.Int).Exp(ten, big.NewInt(n), nil)
		l = append(l, p, new(big.Int).Sub(p, big.NewInt(1)), new(big.Int).Add(p, big.NewInt(1)))
	}
	var n noise = 12
	for words := 30; words < 1000; words += 37 {
		l = append(l, n.number(words))
	}
	for _, x := range l {
		if got := of(x).Text(); got != x.String() {
			t.Fatalf("Text: %s, not %s", got, x)
		}
	}
}

// 1.3

func TestAddSubMul(t *testing.T) {
	l := samples()
	for _, x := range l {
		for _, y := range l {
			same(t, "Add", of(x).Add(of(y)), new(big.Int).Add(x, y))
			same(t, "Mul", of(x).Mul(of(y)), new(big.Int).Mul(x, y))
			got, ok := of(x).Sub(of(y))
			want := new(big.Int)
			if x.Cmp(y) >= 0 {
				want.Sub(x, y)
			}
			same(t, "Sub", got, want)
			if ok != (x.Cmp(y) >= 0) {
				t.Fatalf("Sub of %s and %s: %v", x, y, ok)
			}
		}
	}
}

func TestCarriesGoFar(t *testing.T) {
	for words := 1; words < 12; words++ {
		all, next := of(power(64*words, -1)), of(power(64*words, 0))
		same(t, "carry", all.Add(nat.Of(1)), power(64*words, 0))
		same(t, "carry", nat.Of(1).Add(all), power(64*words, 0))
		got, ok := next.Sub(nat.Of(1))
		if !ok {
			t.Error("Sub says false")
		}
		same(t, "borrow", got, power(64*words, -1))
		want := power(64*words, -1)
		same(t, "square", all.Mul(all), want.Mul(want, want))
	}
}

func TestLongProducts(t *testing.T) {
	var n noise = 5
	sizes := []int{1, 39, 99, 100, 101, 150, 199, 200, 201, 260, 401, 640}
	for _, a := range sizes {
		for _, b := range sizes {
			x, y := n.number(a), n.number(b)
			same(t, "Mul", of(x).Mul(of(y)), new(big.Int).Mul(x, y))
		}
		x := power(64*a, -1)
		same(t, "square", of(x).Mul(of(x)), new(big.Int).Mul(x, x))
	}
}

func divides(t *testing.T, x, y *big.Int) {
	t.Helper()
	q, r, ok := of(x).DivMod(of(y))
	if y.Sign() == 0 {
		if ok || q.Len() != 0 || r.Len() != 0 {
			t.Fatalf("by 0: %s, %s, %v", q.Text(), r.Text(), ok)
		}
		return
	}
	wantQ, wantR := new(big.Int).QuoRem(x, y, new(big.Int))
	if !ok {
		t.Fatalf("DivMod of %s and %s says false", x, y)
	}
	same(t, "quotient", q, wantQ)
	same(t, "rest", r, wantR)
}

func TestDivMod(t *testing.T) {
	l := samples()
	for _, x := range l {
		for _, y := range l {
			divides(t, x, y)
			divides(t, new(big.Int).Mul(x, y), y)
			if y.Sign() > 0 { // the greatest rest
				z := new(big.Int).Mul(x, y)
				divides(t, z.Add(z, y).Sub(z, big.NewInt(1)), y)
			}
		}
	}
}

func TestDivModGuesses(t *testing.T) {
	var n noise = 77
	for range 20000 {
		x, y := n.number(1+n.below(8)), n.number(1+n.below(5))
		divides(t, x, y)
	}
	for words := 2; words < 8; words++ { // the highest words are the same: the guessed digit is the greatest there is
		y := n.number(words)
		y.SetBit(y, 64*words-1, 1)
		x := new(big.Int).Lsh(y, 64)
		divides(t, x.Sub(x, big.NewInt(1)), y)
	}
	top, low := power(63, 0), power(64, -1)
	y := new(big.Int).Lsh(top, 128)
	y.Add(y, big.NewInt(1))
	x := new(big.Int).Lsh(new(big.Int).Sub(top, big.NewInt(1)), 192)
	x.Add(x, new(big.Int).Lsh(top, 128)) // a guess that is one too great, though two words were asked
	divides(t, x, y)
	divides(t, new(big.Int).Lsh(x, 64), y)
	divides(t, x.Mul(x, low), y)
}

func TestLongQuotients(t *testing.T) {
	var n noise = 6
	sizes := []int{1, 2, 60, 99, 100, 101, 130, 199, 201, 302, 420}
	for _, a := range sizes {
		for _, b := range sizes {
			y := n.number(b)
			divides(t, n.number(a+b), y)
			divides(t, new(big.Int).Mul(n.number(a), y), y)
			divides(t, new(big.Int).Sub(power(64*(a+b), 0), big.NewInt(1)), y)
			divides(t, power(64*(a+b), 0), power(64*b, -1))
			divides(t, power(64*(a+b), -1), power(64*b-1, 1))
			divides(t, power(64*(a+b), -1), power(64*b-1, 0))
		}
	}
}

// 1.4

func TestLeft(t *testing.T) {
	for _, x := range samples() {
		for _, n := range []int{0, 1, 2, 31, 63, 64, 65, 127, 128, 200, 4096, -1, -2, -63, -64, -65, -128, -1000, -30000} {
			want := new(big.Int)
			if n >= 0 {
				want.Lsh(x, uint(n))
			} else {
				want.Rsh(x, uint(-n))
			}
			got, ok := of(x).Left(n)
			if !ok {
				t.Fatalf("Left(%d) says false", n)
			}
			same(t, "Left", got, want)
		}
	}
}

func TestLeftFar(t *testing.T) {
	for _, n := range []int{api.MaxShift + 1, 1 << 30, 1 << 60, math.MaxInt} {
		for _, x := range []nat.Nat{nat.Of(1), of(power(100, 1))} {
			if got, ok := x.Left(n); ok || got.Len() != 0 {
				t.Errorf("Left(%d): %d bits, %v", n, got.Len(), ok)
			}
		}
		if got, ok := nat.Of(0).Left(n); !ok || got.Len() != 0 {
			t.Errorf("Left(%d) of 0: %v", n, ok)
		}
	}
	got, ok := nat.Of(5).Left(api.MaxShift)
	if !ok || got.Len() != api.MaxShift+3 || !got.Bit(api.MaxShift) || got.Bit(api.MaxShift+1) || !got.Bit(api.MaxShift+2) || got.Right(api.MaxShift).Cmp(nat.Of(5)) != 0 {
		t.Errorf("Left(MaxShift): %d bits, %v", got.Len(), ok)
	}
	if again, ok := got.Left(api.MaxShift); !ok || again.Len() != 2*api.MaxShift+3 {
		t.Errorf("Left(MaxShift) again: %d bits, %v", again.Len(), ok)
	}
	for _, n := range []int{math.MinInt, math.MinInt + 1, -1 << 60, -api.MaxShift - 1} {
		for _, x := range []nat.Nat{{}, nat.Of(5), of(power(300, 7))} {
			if got, ok := x.Left(n); !ok || got.Len() != 0 {
				t.Errorf("Left(%d): %s, %v", n, got.Text(), ok)
			}
		}
	}
	if back, ok := got.Left(-api.MaxShift - 1); !ok || back.Cmp(nat.Of(2)) != 0 {
		t.Errorf("Left back beyond MaxShift: %d bits, %v", back.Len(), ok)
	}
}

func TestRight(t *testing.T) {
	for _, x := range samples() {
		bits := x.BitLen()
		for _, n := range []int{0, 1, 2, 31, 63, 64, 65, 127, 128, 200, 4096, bits - 1, bits, bits + 1, 1 << 40, math.MaxInt} {
			want := new(big.Int).Set(x)
			if n >= bits {
				want.SetInt64(0)
			} else if n > 0 {
				want.Rsh(x, uint(n))
			}
			same(t, "Right", of(x).Right(n), want)
		}
		for _, n := range []int{-1, -3, -64, math.MinInt, math.MinInt + 1} {
			same(t, "Right below 0", of(x).Right(n), x)
		}
	}
}

// 1.5

func TestCmp(t *testing.T) {
	l := samples()
	for _, x := range l {
		for _, y := range l {
			if got := of(x).Cmp(of(y)); got != x.Cmp(y) {
				t.Fatalf("Cmp of %s and %s: %d", x, y, got)
			}
		}
	}
	if (nat.Nat{}).Cmp(nat.Of(0)) != 0 || (nat.Nat{}).Cmp(nat.Of(1)) != -1 || nat.Of(1).Cmp(nat.Nat{}) != 1 {
		t.Error("the zero value is not 0")
	}
}

func TestLenAndBit(t *testing.T) {
	for _, x := range samples() {
		n := of(x)
		if n.Len() != x.BitLen() {
			t.Fatalf("Len of %s: %d", x, n.Len())
		}
		for i := range x.BitLen() + 140 {
			if n.Bit(i) != (x.Bit(i) == 1) {
				t.Fatalf("Bit(%d) of %s: %v", i, x, n.Bit(i))
			}
		}
		for _, i := range []int{-1, -64, math.MinInt, 1 << 40, math.MaxInt} {
			if n.Bit(i) {
				t.Fatalf("Bit(%d) of %s", i, x)
			}
		}
	}
}

func TestUint(t *testing.T) {
	for _, x := range samples() {
		want := uint64(0)
		if x.IsUint64() {
			want = x.Uint64()
		}
		if got, ok := of(x).Uint(); got != want || ok != x.IsUint64() {
			t.Fatalf("Uint of %s: %d, %v", x, got, ok)
		}
	}
	if got, ok := (nat.Nat{}).Uint(); got != 0 || !ok {
		t.Errorf("Uint of the zero value: %d, %v", got, ok)
	}
}

// 1.6

func gcd(x, y *big.Int) *big.Int {
	return new(big.Int).GCD(nil, nil, x, y)
}

func TestGcd(t *testing.T) {
	l := samples()
	for _, x := range l {
		for _, y := range l {
			same(t, "Gcd", nat.Gcd(of(x), of(y)), gcd(x, y))
		}
	}
	same(t, "Gcd(0, 0)", nat.Gcd(nat.Of(0), nat.Nat{}), new(big.Int))
	var n noise = 9
	for range 3000 {
		common := n.number(n.below(6))
		common.Lsh(common, uint(n.below(130)))
		x, y := n.number(n.below(9)), n.number(n.below(9))
		x.Mul(x, common)
		y.Mul(y, common).Lsh(y, uint(n.below(70)))
		same(t, "Gcd", nat.Gcd(of(x), of(y)), gcd(x, y))
	}
}

func TestGcdOfNeighbours(t *testing.T) {
	a, b := big.NewInt(0), big.NewInt(1)
	for range 2500 { // each step's quotient is 1
		a, b = b, new(big.Int).Add(a, b)
		same(t, "Gcd", nat.Gcd(of(a), of(b)), big.NewInt(1))
	}
	common := power(521, -1)
	same(t, "Gcd", nat.Gcd(of(a.Mul(a, common)), of(b.Mul(b, common))), common)
}

func TestGcdOfManyTwos(t *testing.T) {
	up := func(x nat.Nat, by int) nat.Nat {
		y, ok := x.Left(by)
		if !ok {
			t.Fatal("Left says false")
		}
		return y
	}
	x := up(up(nat.Of(6), api.MaxShift), 70)
	y := up(up(nat.Of(15), api.MaxShift), 69)
	if got := nat.Gcd(x, y); got.Cmp(up(up(nat.Of(3), api.MaxShift), 69)) != 0 {
		t.Errorf("%d bits", got.Len())
	}
}
