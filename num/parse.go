package num

import (
	"millrace/api"
	"millrace/nat"
	"millrace/rat"
)

// A power of 10 in a text has at most so many digits.
const powerDigits = 3

// parts are the runs of digits that a text is made of; those that it does not have are empty.
type parts struct {
	whole, below, places, power string
	minus                       bool // of the power
}

// Parse is the fraction of a text.
func Parse(s string) (rat.Rat, api.Errno) {
	if len(s) > api.MaxDigits {
		return rat.Rat{}, api.ErrNumber
	}
	p, ok := cut(s)
	if !ok {
		return rat.Rat{}, api.ErrNumber
	}
	x, ok := p.value()
	if !ok {
		return rat.Rat{}, api.ErrNumber
	}
	return x, api.OK
}

// cut goes through s byte by byte; it says false, if s has none of the forms.
func cut(s string) (p parts, ok bool) {
	i, from := 0, 0
whole:
	if digitAt(s, i) {
		i++
		goto whole
	}
	p.whole = s[from:i]
	if i == from || i == len(s) {
		goto end
	}
	i++
	from = i
	switch s[i-1] {
	case '/':
		goto below
	case '.':
		goto places
	case 'e':
		goto sign
	}
	return p, false
below:
	if digitAt(s, i) {
		i++
		goto below
	}
	p.below = s[from:i]
	goto end
places:
	if digitAt(s, i) {
		i++
		goto places
	}
	p.places = s[from:i]
	if i == from || i == len(s) || s[i] != 'e' {
		goto end
	}
	i++
sign:
	if i < len(s) && (s[i] == '+' || s[i] == '-') {
		p.minus = s[i] == '-'
		i++
	}
	from = i
power:
	if digitAt(s, i) {
		i++
		goto power
	}
	p.power = s[from:i]
	if len(p.power) > powerDigits {
		return p, false
	}
end: // The last run may not be empty, and nothing may stand behind it.
	return p, i > from && i == len(s)
}

func digitAt(s string, i int) bool {
	return i < len(s) && '0' <= s[i] && s[i] <= '9'
}

// value is the fraction that the parts tell; false, if that is something over 0.
func (p parts) value() (rat.Rat, bool) {
	// The runs together are no longer than the text, so nat takes them.
	above, _ := nat.Parse(p.whole + p.places)
	if p.below != "" {
		below, _ := nat.Parse(p.below)
		return rat.From(above, below)
	}
	power := small(p.power)
	if p.minus {
		power = -power
	}
	power -= len(p.places)
	if power < 0 {
		return rat.From(above, tenTo(-power))
	}
	return rat.From(above.Mul(tenTo(power)), nat.Of(1))
}

// small is the number of at most powerDigits digits; of none it is 0.
func small(digits string) int {
	n := 0
	for i := range len(digits) {
		n = 10*n + int(digits[i]-'0')
	}
	return n
}
