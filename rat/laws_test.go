package rat_test

import (
	"math"
	"math/big"
	"sync"
	"testing"

	"millrace/nat"
	"millrace/rat"
)

func equal(t *testing.T, name string, r, s rat.Rat) {
	t.Helper()
	if r.Cmp(s) != 0 || text(r) != text(s) {
		t.Fatalf("%s: %s and %s", name, text(r), text(s))
	}
}

// triples are fractions of all lengths, three at a time.
func triples(t *testing.T, count int, each func(r, s, u rat.Rat)) {
	var n noise = 41
	for i := range count {
		most := 40
		if i%10 == 0 {
			most = 1500
		}
		each(of(t, n.fraction(most)), of(t, n.fraction(most)), of(t, n.fraction(most)))
	}
}

// 2.9

func TestThereAndBack(t *testing.T) {
	triples(t, 500, func(r, s, _ rat.Rat) {
		back, ok := r.Add(s).Sub(s)
		if !ok {
			t.Fatal("r + s - s says false")
		}
		equal(t, "r + s - s", back, r)
		if s.Cmp(rat.Rat{}) == 0 {
			return
		}
		back, ok = r.Mul(s).Div(s)
		if !ok {
			t.Fatal("r s / s says false")
		}
		equal(t, "r s / s", back, r)
	})
}

func TestOrderOfSumsAndProducts(t *testing.T) {
	triples(t, 500, func(r, s, u rat.Rat) {
		equal(t, "order of a sum", r.Add(s), s.Add(r))
		equal(t, "grouping of a sum", r.Add(s).Add(u), r.Add(s.Add(u)))
		equal(t, "order of a product", r.Mul(s), s.Mul(r))
		equal(t, "grouping of a product", r.Mul(s).Mul(u), r.Mul(s.Mul(u)))
		equal(t, "product over sum", r.Mul(s.Add(u)), r.Mul(s).Add(r.Mul(u)))
		equal(t, "Sum", rat.Sum(r, s, u), rat.Sum(u, r, s))
		equal(t, "Sum, the other way round", rat.Sum(r, s, u), rat.Sum(u, s, r))
		equal(t, "Sum and Add", rat.Sum(r, s, u), r.Add(s).Add(u))
		equal(t, "Between", rat.Between(r, s), rat.Between(s, r))
	})
}

func TestCmpFitsDifferences(t *testing.T) {
	triples(t, 500, func(r, s, u rat.Rat) {
		for _, c := range [][2]rat.Rat{{r, s}, {s, r}, {r, r}, {r.Add(s), r}, {r, r.Add(s)}, {r.Add(u), s.Add(u)}} {
			cmp := c[0].Cmp(c[1])
			rest, ok := c[0].Sub(c[1])
			if ok != (cmp != -1) || cmp != -c[1].Cmp(c[0]) {
				t.Fatalf("%s and %s: %d, %v", text(c[0]), text(c[1]), cmp, ok)
			}
			if (cmp == 1) != (rest.Cmp(rat.Rat{}) == 1) {
				t.Fatalf("%s less %s: %s", text(c[0]), text(c[1]), text(rest))
			}
		}
	})
}

// 2.10

func TestFloorAndCeilHoldTheFraction(t *testing.T) {
	one := nat.Of(1)
	triples(t, 500, func(r, s, u rat.Rat) {
		for _, x := range []rat.Rat{r, s, u, r.Add(s), r.Mul(u)} {
			floor, _ := rat.From(x.Floor(), one)
			next, _ := rat.From(x.Floor().Add(one), one)
			if floor.Cmp(x) > 0 || next.Cmp(x) <= 0 {
				t.Fatalf("Floor of %s: %s", text(x), text(floor))
			}
			ceil, _ := rat.From(x.Ceil(), one)
			want := next
			if _, q := x.Parts(); q.Cmp(one) == 0 {
				want = floor
			}
			equal(t, "Ceil", ceil, want)
		}
	})
}

// 2.11

// askAll calls everything that a fraction has, and tells all answers as one text.
func askAll(r, s rat.Rat) string {
	sub, subOk := r.Sub(s)
	div, divOk := r.Div(s)
	out := text(r.Add(s)) + text(sub) + text(r.Mul(s)) + text(div) + text(rat.Sum(r, s, r)) + text(rat.Between(r, s)) + r.Floor().Text() + r.Ceil().Text()
	for _, n := range []int{math.MinInt, -1, 0, 1, 12, math.MaxInt} {
		times, timesOk := r.MulInt(n)
		over, overOk := r.DivInt(n)
		out += text(times) + text(over)
		if timesOk {
			out += "m"
		}
		if overOk {
			out += "d"
		}
	}
	if subOk {
		out += "s"
	}
	if divOk {
		out += "d"
	}
	whole, ok := r.Int()
	if ok {
		out += "i"
	}
	return out + big.NewInt(int64(whole)).String() + big.NewInt(int64(r.Cmp(s))).String()
}

// TestNothingIsKept: whatever is called, in whatever order, the fractions stay what they are and the answers the same.
func TestNothingIsKept(t *testing.T) {
	var l []rat.Rat
	var before []string
	for _, x := range samples() {
		l = append(l, of(t, x))
		before = append(before, text(of(t, x)))
	}
	first := make([]string, len(l))
	for i, r := range l {
		first[i] = askAll(r, l[(i*7+3)%len(l)])
	}
	for i := len(l) - 1; i >= 0; i-- {
		if askAll(l[i], l[(i*7+3)%len(l)]) != first[i] {
			t.Fatalf("%s is answered otherwise later", before[i])
		}
	}
	for i, r := range l {
		is(t, "behind all calls", r, before[i])
	}
}

// TestManyAtOnce: fractions are values, so several may ask the same ones at one time.
func TestManyAtOnce(t *testing.T) {
	r, s := of(t, new(big.Rat).SetFrac64(1<<62-1, 360360)), small(t, 35, 360360)
	want := askAll(r, s)
	got := make([]string, 8)
	var all sync.WaitGroup
	for i := range got {
		all.Go(func() {
			for range 20 {
				got[i] = askAll(r, s)
			}
		})
	}
	all.Wait()
	for _, g := range got {
		if g != want {
			t.Errorf("%s, not %s", g, want)
		}
	}
}

// scribble writes over all bytes that are told of a number, and behind their end.
func scribble(x nat.Nat) {
	b := x.Bytes()
	b = b[:cap(b)]
	for i := range b {
		b[i] ^= 0xff
	}
}

func TestBytesOfPartsAreNotTheFraction(t *testing.T) {
	var n noise = 9
	for _, bits := range []int{3, 60, 64, 130, 900} {
		x, y := n.fraction(bits), n.fraction(bits)
		r, s := of(t, x), of(t, y)
		sum := r.Add(s)
		for _, u := range []rat.Rat{r, s, sum, rat.Sum(r), rat.Sum(r, rat.Rat{}), rat.Between(r, r), rat.Between(r, s)} {
			p, q := u.Parts()
			scribble(p)
			scribble(q)
			scribble(u.Floor())
			scribble(u.Ceil())
		}
		same(t, "the first", r, x)
		same(t, "the second", s, y)
		same(t, "their sum", sum, new(big.Rat).Add(x, y))
		is(t, "0", rat.Rat{}, "0/1")
	}
}

// TestBytesGivenAreNotTheFraction: nor does a fraction hang on the bytes that its parts were made of.
func TestBytesGivenAreNotTheFraction(t *testing.T) {
	p, q := []byte{1, 2, 3, 4, 5, 6, 7, 8, 9}, []byte{0, 0, 7}
	r, _ := rat.From(nat.FromBytes(p), nat.FromBytes(q))
	before := text(r)
	clear(p)
	clear(q)
	is(t, "behind clear", r, before)
}

// TestVeryLongParts: calls end also where parts have tens of thousands of bits.
func TestVeryLongParts(t *testing.T) {
	var n noise = 13
	x := new(big.Rat).SetFrac(n.number(60000), n.number(60000))
	y := new(big.Rat).SetFrac(n.number(45000), new(big.Int).Lsh(big.NewInt(1), 60000))
	r, s := of(t, x), of(t, y)
	same(t, "Add", r.Add(s), new(big.Rat).Add(x, y))
	same(t, "Mul", r.Mul(s), new(big.Rat).Mul(x, y))
	quotient, ok := r.Div(s)
	sameOr(t, "Div", quotient, ok, true, new(big.Rat).Quo(x, y))
	rest, ok := r.Sub(s)
	sameOr(t, "Sub", rest, ok, x.Cmp(y) >= 0, new(big.Rat).Sub(x, y))
	same(t, "Between one and the same", rat.Between(r, r), x)
	asksSimplest(t, x, y)
}
