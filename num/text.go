package num

import (
	"strings"

	"millrace/api"
	"millrace/rat"
)

// Format is x as a text.
func Format(x rat.Rat) string {
	p, q := x.Parts()
	if q.Len() == 1 {
		return p.Text()
	}
	return p.Text() + "/" + q.Text()
}

// Decimal is x with so many places behind the point.
func Decimal(x rat.Rat, places int) (string, bool) {
	if places < 0 || places > api.MaxPlaces {
		return "", false
	}
	p, q := x.Parts()
	digits := nearest(p.Mul(tenTo(places)), q).Text()
	if places == 0 {
		return digits, true
	}
	// One digit stands ahead of the point at least.
	digits = strings.Repeat("0", max(0, places+1-len(digits))) + digits
	point := len(digits) - places
	return digits[:point] + "." + digits[point:], true
}
