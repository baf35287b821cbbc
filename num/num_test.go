package num_test

import (
	"bytes"
	"math/big"
	"testing"

	"millrace/nat"
	"millrace/rat"
)

// noise gives the same words in every run.
type noise uint64

func (n *noise) word() uint64 {
	*n += 0x9e3779b97f4a7c15
	z := uint64(*n)
	z = (z ^ z>>30) * 0xbf58476d1ce4e5b9
	z = (z ^ z>>27) * 0x94d049bb133111eb
	return z ^ z>>31
}

func (n *noise) below(bound int) int {
	return int(n.word() % uint64(bound))
}

// number has at most so many bits.
func (n *noise) number(bits int) *big.Int {
	x := new(big.Int)
	for range bits/64 + 1 {
		x.Lsh(x, 64).Or(x, new(big.Int).SetUint64(n.word()))
	}
	return x.Rsh(x, uint(x.BitLen()-min(x.BitLen(), bits)))
}

// fraction has parts of at most so many bits.
func (n *noise) fraction(bits int) *big.Rat {
	p, q := n.number(n.below(bits+1)), n.number(n.below(bits+1))
	if q.Sign() == 0 {
		q.SetInt64(1)
	}
	return new(big.Rat).SetFrac(p, q)
}

// two is 2 to the power n, also below 0.
func two(n int) *big.Rat {
	power := new(big.Int).Lsh(big.NewInt(1), uint(max(n, -n)))
	if n < 0 {
		return new(big.Rat).SetFrac(big.NewInt(1), power)
	}
	return new(big.Rat).SetInt(power)
}

// ten is 10 to the power n, also below 0.
func ten(n int) *big.Rat {
	power := new(big.Int).Exp(big.NewInt(10), big.NewInt(int64(max(n, -n))), nil)
	if n < 0 {
		return new(big.Rat).SetFrac(big.NewInt(1), power)
	}
	return new(big.Rat).SetInt(power)
}

func plus(x, y *big.Rat) *big.Rat  { return new(big.Rat).Add(x, y) }
func minus(x, y *big.Rat) *big.Rat { return new(big.Rat).Sub(x, y) }
func times(x, y *big.Rat) *big.Rat { return new(big.Rat).Mul(x, y) }

func of(t *testing.T, x *big.Rat) rat.Rat {
	t.Helper()
	r, ok := rat.From(nat.FromBytes(x.Num().Bytes()), nat.FromBytes(x.Denom().Bytes()))
	if !ok {
		t.Fatalf("From(%s) says false", x)
	}
	return r
}

func small(t *testing.T, p, q int) rat.Rat {
	t.Helper()
	r, ok := rat.Of(p, q)
	if !ok {
		t.Fatalf("Of(%d, %d) says false", p, q)
	}
	return r
}

// text is r's parts, told as they are: no other form of r has the same text.
func text(r rat.Rat) string {
	p, q := r.Parts()
	return p.Text() + "/" + q.Text()
}

// same holds r's parts against those of want, which big keeps in lowest terms.
func same(t *testing.T, name string, r rat.Rat, want *big.Rat) {
	t.Helper()
	p, q := r.Parts()
	if !bytes.Equal(p.Bytes(), want.Num().Bytes()) || !bytes.Equal(q.Bytes(), want.Denom().Bytes()) {
		t.Fatalf("%s: %s, not %s", name, text(r), want)
	}
}
