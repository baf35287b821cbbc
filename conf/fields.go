package conf

import "millrace/api"

// bounds are a field's least and greatest value; of a field that must be 0 both are 0.
type bounds struct{ least, most int }

func (b bounds) hold(n int) bool { return within(n, b.least, b.most) }

// within is whether n is from least to most; what is no number is not.
func within[N int | float64](n, least, most N) bool { return least <= n && n <= most }

// fields are the bounds of those fields, of a set-up, a node or a flow, that not all kinds have.
type fields struct{ quantum, class, span, age bounds }

// fieldsOf is which of these fields a kind has; false, if it is no kind.
func fieldsOf(kind int) (fields, bool) {
	f := fields{
		quantum: bounds{1, api.MaxQuantum},
		class:   bounds{0, api.MaxClass},
		span:    bounds{0, api.MaxSpan},
		age:     bounds{0, api.MaxAge},
	}
	// Each case takes off what its kinds do not have.
	switch kind {
	case api.WFQ, api.WF2, api.TREE:
		f.quantum = bounds{}
		fallthrough
	case api.DRR:
		f.class, f.span, f.age = bounds{}, bounds{}, bounds{}
	case api.EDF:
		f.quantum, f.class, f.age = bounds{}, bounds{}, bounds{}
	case api.AGE:
		f.quantum, f.span = bounds{}, bounds{}
	default:
		return fields{}, false
	}
	return f, true
}
