package flow

import (
	"iter"

	"millrace/api"
)

// Books are a flow's books.
func (t *Table) Books(h api.Handle) (api.Counters, api.Errno) {
	f, e := t.flows.Get(h)
	if e != api.OK {
		return api.Counters{}, e
	}
	return f.Counters, api.OK
}

// Total are the books of all.
func (t *Table) Total() api.Counters { return t.total.Counters }

// Tell is a flow.
func (t *Table) Tell(h api.Handle, at int) (api.Flow, api.Errno) {
	f, e := t.flows.Get(h)
	if e != api.OK {
		return api.Flow{}, e
	}
	return f.tell(h, at), api.OK
}

// All goes through all flows.
func (t *Table) All(at int) iter.Seq[api.Flow] {
	return func(yield func(api.Flow) bool) {
		// The body may change any flow, so all are asked ahead of it.
		var told []api.Flow
		for h, f := range t.flows.All() {
			told = append(told, f.tell(h, at))
		}
		for _, f := range told {
			if !yield(f) {
				return
			}
		}
	}
}

// Weight is the sum of the open flows' weights.
func (t *Table) Weight() int {
	sum := 0
	for _, f := range t.flows.All() {
		sum += f.params.Weight
	}
	return sum
}

// Len is how many flows are open.
func (t *Table) Len() int { return t.flows.Len() }

// Seq is the number of the last packet that was admitted.
func (t *Table) Seq() int { return t.seq }
