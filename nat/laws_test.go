package nat_test

import (
	"bytes"
	"math"
	"math/big"
	"sync"
	"testing"

	"millrace/api"
	"millrace/nat"
)

func equal(t *testing.T, name string, x, y nat.Nat) {
	t.Helper()
	if x.Cmp(y) != 0 || !bytes.Equal(x.Bytes(), y.Bytes()) {
		t.Fatalf("%s: %s and %s", name, x.Text(), y.Text())
	}
}

// triples are numbers of all lengths, three at a time.
func triples(count int, each func(x, y, z nat.Nat)) {
	var n noise = 41
	for i := range count {
		most := 6
		if i%10 == 0 {
			most = 120
		}
		each(of(n.number(n.below(most))), of(n.number(n.below(most))), of(n.number(n.below(most))))
	}
}

// 1.7

func TestLawsOfSumsAndProducts(t *testing.T) {
	triples(500, func(x, y, z nat.Nat) {
		equal(t, "order of a sum", x.Add(y), y.Add(x))
		equal(t, "grouping of a sum", x.Add(y).Add(z), x.Add(y.Add(z)))
		equal(t, "order of a product", x.Mul(y), y.Mul(x))
		equal(t, "grouping of a product", x.Mul(y).Mul(z), x.Mul(y.Mul(z)))
		equal(t, "product over sum", x.Mul(y.Add(z)), x.Mul(y).Add(x.Mul(z)))
		equal(t, "0 added", x.Add(nat.Nat{}), x)
		equal(t, "times 1", x.Mul(nat.Of(1)), x)
		equal(t, "times 0", x.Mul(nat.Nat{}), nat.Of(0))
		back, ok := x.Add(y).Sub(y)
		if !ok {
			t.Fatal("Sub says false")
		}
		equal(t, "added and taken away", back, x)
	})
}

func TestLawsOfQuotients(t *testing.T) {
	triples(500, func(x, y, z nat.Nat) {
		y = y.Add(nat.Of(1))
		q, r, ok := x.Mul(z).DivMod(y)
		if !ok || r.Cmp(y) >= 0 {
			t.Fatalf("rest %s of %s, %v", r.Text(), y.Text(), ok)
		}
		equal(t, "quotient and rest", q.Mul(y).Add(r), x.Mul(z))
		q, r, ok = x.Mul(y).DivMod(y)
		if !ok || r.Len() != 0 {
			t.Fatalf("rest %s, %v", r.Text(), ok)
		}
		equal(t, "product divided", q, x)
	})
}

func TestLawsOfDivisors(t *testing.T) {
	triples(500, func(x, y, z nat.Nat) {
		x, y = x.Mul(z), y.Mul(z)
		g := nat.Gcd(x, y)
		equal(t, "order of Gcd", g, nat.Gcd(y, x))
		if g.Len() == 0 {
			if x.Len()+y.Len() != 0 {
				t.Fatal("Gcd is 0")
			}
			return
		}
		for _, n := range []nat.Nat{x, y} {
			if _, r, ok := n.DivMod(g); !ok || r.Len() != 0 {
				t.Fatalf("%s does not divide %s", g.Text(), n.Text())
			}
		}
		if _, r, ok := g.DivMod(z); !ok || r.Len() != 0 {
			t.Fatalf("%s divides both, but not %s", z.Text(), g.Text())
		}
		p, _, _ := x.DivMod(g)
		q, _, _ := y.DivMod(g)
		equal(t, "Gcd of what is left", nat.Gcd(p, q), nat.Of(1))
	})
}

// 1.8

func TestOneForm(t *testing.T) {
	l := samples()
	for _, x := range l {
		for _, y := range l {
			a, b := of(x), of(y)
			one := x.Cmp(y) == 0
			if bytes.Equal(a.Bytes(), b.Bytes()) != one || (a.Text() == b.Text()) != one || (a.Cmp(b) == 0) != one {
				t.Fatalf("%s and %s", x, y)
			}
		}
	}
}

// TestOneFormByManyWays: one number, come by in different ways, looks the same whatever is asked of it.
func TestOneFormByManyWays(t *testing.T) {
	triples(200, func(x, y, _ nat.Nat) {
		y = y.Add(nat.Of(1))
		sum, _ := x.Add(y).Sub(y)
		quotient, _, _ := x.Mul(y).DivMod(y)
		_, rest, _ := x.Add(y).Mul(x.Add(nat.Of(1))).Add(x).DivMod(x.Add(nat.Of(1)))
		up, _ := x.Left(200)
		for _, z := range []nat.Nat{sum, quotient, rest, up.Right(200), nat.Gcd(x, nat.Nat{}), nat.Gcd(x, x.Mul(y)), nat.FromBytes(append(make([]byte, 9), x.Bytes()...))} {
			equal(t, "another way", z, x)
			if z.Text() != x.Text() || z.Len() != x.Len() {
				t.Fatalf("%s and %s", z.Text(), x.Text())
			}
		}
		nothing, ok := x.Sub(x)
		if !ok || nothing.Len() != 0 || len(nothing.Bytes()) != 0 || nothing.Text() != "0" || nothing.Cmp(nat.Nat{}) != 0 {
			t.Fatal("x - x is not 0")
		}
	})
}

func TestThereAndBack(t *testing.T) {
	for _, x := range samples() {
		n := of(x)
		equal(t, "FromBytes of Bytes", nat.FromBytes(n.Bytes()), n)
		s := n.Text()
		back, ok := nat.Parse(s)
		if len(s) > api.MaxDigits {
			if ok {
				t.Fatal("a text that is too long is taken")
			}
			continue
		}
		if !ok {
			t.Fatalf("Parse(%s) says false", s)
		}
		equal(t, "Parse of Text", back, n)
	}
}

// 1.9

func TestBytesAreNew(t *testing.T) {
	for _, x := range samples() {
		n := of(x)
		b := n.Bytes()
		for i := range b[:cap(b)] {
			b[:cap(b)][i] ^= 0xa5
		}
		same(t, "behind a write into Bytes", n, x)
	}
}

func TestWhatIsHandedInStays(t *testing.T) {
	for _, x := range samples() {
		room := append(append([]byte{1, 2, 3}, x.Bytes()...), 4, 5, 6, 7, 8, 9, 10, 11, 12)
		before := bytes.Clone(room)
		in := room[3 : 3+len(x.Bytes())]
		n := nat.FromBytes(in)
		if !bytes.Equal(room, before) {
			t.Fatal("FromBytes changed its bytes, or those beside them")
		}
		n.Add(n)
		n.Mul(n)
		for i := range room {
			room[i] ^= 0x5a
		}
		same(t, "behind a write into what was handed in", n, x)
	}
}

// TestNothingChanges: no call changes a number, nor a copy of it, nor what another call answered.
func TestNothingChanges(t *testing.T) {
	l := samples()
	for _, x := range l {
		for _, y := range l {
			a, b := of(x), of(y)
			copied := a
			var kept []nat.Nat
			var was []string
			keep := func(n nat.Nat) {
				kept = append(kept, n)
				was = append(was, string(n.Bytes()))
			}
			for range 2 {
				keep(a.Add(b))
				keep(a.Mul(b))
				keep(nat.Gcd(a, b))
				d, _ := a.Sub(b)
				q, r, _ := a.DivMod(b)
				up, _ := a.Left(67)
				for _, n := range []nat.Nat{d, q, r, up, a.Right(3)} {
					keep(n)
				}
			}
			same(t, "x", a, x)
			same(t, "y", b, y)
			same(t, "a copy", copied, x)
			for i, n := range kept {
				if string(n.Bytes()) != was[i] || was[i] != was[(i+len(was)/2)%len(was)] {
					t.Fatalf("answer %d is another", i)
				}
			}
		}
	}
}

func TestAnswersOfManyAtOnce(t *testing.T) {
	x, y := power(9000, 17), power(4000, -5)
	product, quotient := new(big.Int).Mul(x, y).String(), new(big.Int).Div(x, y).String()
	a, b := of(x), of(y)
	var all sync.WaitGroup
	wrong := make([]bool, 8)
	for i := range wrong {
		all.Go(func() {
			for range 20 {
				q, _, _ := a.DivMod(b)
				wrong[i] = wrong[i] || a.Mul(b).Text() != product || q.Text() != quotient || nat.Gcd(a, b).Len() == 0
			}
		})
	}
	all.Wait()
	for _, w := range wrong {
		if w {
			t.Error("another answer beside other goroutines")
		}
	}
}

func TestLongNumbersEnd(t *testing.T) {
	x, _ := nat.Of(3).Left(1 << 18)
	y, _ := nat.Of(7).Left(1 << 17)
	y = y.Add(nat.Of(11))
	q, r, ok := x.Mul(y).DivMod(y)
	if !ok || r.Len() != 0 {
		t.Fatal("long quotient")
	}
	equal(t, "long quotient", q, x)
	want := new(big.Int).Lsh(big.NewInt(3), 1<<18).String()
	if x.Text() != want {
		t.Error("long text")
	}
	equal(t, "long divisor", nat.Gcd(x.Mul(y), y), y)
}

// TestExamples: the chapter's table.
func TestExamples(t *testing.T) {
	text := func(name string, x nat.Nat, want string) {
		t.Helper()
		if x.Text() != want {
			t.Errorf("%s: %s, not %s", name, x.Text(), want)
		}
	}
	told := func(name string, got, want bool) {
		t.Helper()
		if got != want {
			t.Errorf("%s says %v", name, got)
		}
	}
	text("sum", nat.Of(math.MaxUint64).Add(nat.Of(1)), "18446744073709551616")
	d, ok := nat.Of(3).Sub(nat.Of(5))
	text("3 - 5", d, "0")
	told("3 - 5", ok, false)
	d, ok = nat.Of(5).Sub(nat.Of(5))
	text("5 - 5", d, "0")
	told("5 - 5", ok, true)
	q, r, ok := nat.Of(17).DivMod(nat.Of(5))
	text("17 / 5", q, "3")
	text("17 / 5, the rest", r, "2")
	told("17 / 5", ok, true)
	q, r, ok = nat.Of(17).DivMod(nat.Of(0))
	text("17 / 0", q, "0")
	text("17 / 0, the rest", r, "0")
	told("17 / 0", ok, false)
	_, _, ok = nat.Nat{}.DivMod(nat.Nat{})
	told("0 / 0", ok, false)
	l, ok := nat.Of(5).Left(-1)
	text("Left(-1)", l, "2")
	told("Left(-1)", ok, true)
	text("Right(1)", nat.Of(5).Right(1), "2")
	text("Right(70)", nat.Of(5).Right(70), "0")
	text("Right(-3)", nat.Of(5).Right(-3), "5")
	text("Gcd(12, 18)", nat.Gcd(nat.Of(12), nat.Of(18)), "6")
	text("Gcd(0, 7)", nat.Gcd(nat.Of(0), nat.Of(7)), "7")
	text("Gcd(7, 0)", nat.Gcd(nat.Of(7), nat.Of(0)), "7")
	x, ok := nat.Parse("007")
	text("007", x, "7")
	told("007", ok, true)
}
