package num

import (
	"millrace/api"
	"millrace/nat"
	"millrace/rat"
)

// A number's bits are, from the highest on: its sign, its exponent, and the bits of its mantissa but the first one, which the exponent tells.
const (
	mantissaBits = 52
	signBit      = 1 << 63
	infinity     = 0x7ff << mantissaBits // the infinity's bits: those of all numbers from 0 on are below it
)

// Every number is a whole number of 2^leastUnit; below 2^aboveAll lie all of them.
const (
	leastUnit = -1074
	aboveAll  = 1024
)

// FromFloat is a's value.
func FromFloat(a float64) (rat.Rat, bool) {
	bits := api.Bits(a)
	if bits == signBit {
		return rat.Rat{}, true
	}
	if bits >= infinity {
		return rat.Rat{}, false
	}
	mantissa, unit := bits%(1<<mantissaBits), leastUnit
	if exponent := int(bits >> mantissaBits); exponent > 0 {
		mantissa += 1 << mantissaBits
		unit += exponent - 1
	}
	return rat.From(inUnits(nat.Of(mantissa), nat.Of(1), -unit))
}

// ToFloat is near of x.
func ToFloat(x rat.Rat) (float64, bool) {
	p, q := x.Parts()
	// x, if it is not 0, is between 2^(size-1) and 2^(size+1). The far ones are told by this alone, so that no shift is beyond its bound.
	size := p.Len() - q.Len()
	switch {
	case p.Len() == 0 || size < leastUnit-1:
		return 0, true
	case size > aboveAll:
		return 0, false
	}
	if above, below := inUnits(p, q, size); above.Cmp(below) < 0 {
		size--
	}
	unit := max(size-mantissaBits, leastUnit)
	count, _ := nearest(inUnits(p, q, unit)).Uint()
	// The count's first bit counts one up in the exponent, and a count that was rounded up to the next power of 2 one more: both as they should.
	bits := uint64(unit-leastUnit)<<mantissaBits + count
	if bits >= infinity {
		return 0, false
	}
	return api.Float(bits), true
}

// inUnits is how many 2^unit p / q is, as two parts.
func inUnits(p, q nat.Nat, unit int) (above, below nat.Nat) {
	if unit < 0 {
		p, _ = p.Left(-unit)
	} else {
		q, _ = q.Left(unit)
	}
	return p, q
}
