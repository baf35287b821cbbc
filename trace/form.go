package trace

import "millrace/api"

// What each kind is called, at the kind's place: a discipline, a call, and what a call is answered.
var (
	disciplines = [...]string{api.WFQ: "wfq", api.DRR: "drr", api.EDF: "edf", api.AGE: "age", api.WF2: "wf2", api.TREE: "tree"}
	calls       = [...]string{api.COpen: "open", api.CClose: "close", api.CSend: "send", api.CPoll: "poll", api.CStats: "stats", api.CTotal: "total"}
	answers     = [...]string{api.COpen: "flow", api.CClose: "books", api.CSend: "seq", api.CPoll: "left", api.CStats: "books", api.CTotal: "books"}
)

const (
	beginning = "millrace"
	refusal   = "error"
	noughts   = "0000000000000000" // as many as a rate has digits
)

// isDiscipline is whether a discipline has that kind.
func isDiscipline(kind int) bool { return kind > 0 && kind < len(disciplines) }

// placeOf is the kind that is called so; 0, if none is.
func placeOf(word string, names [7]string) int {
	for i, name := range names {
		if name == word {
			return i
		}
	}
	return 0
}

// wholes are fields of whole numbers.
func wholes(l ...*int) []field {
	f := make([]field, len(l))
	for i, n := range l {
		f[i] = (*whole)(n)
	}
	return f
}

// ofSetup are the fields of a set-up, but for its nodes.
func ofSetup(c *api.Conf) []field {
	return append([]field{(*discipline)(&c.Kind)}, wholes(&c.Room, &c.Most, &c.Cap, &c.Flows, &c.Age)...)
}

func ofNode(n *api.Node) []field {
	return append([]field{(*discipline)(&n.Kind)}, wholes(&n.Parent, &n.Quantum, &n.Age)...)
}

// ofCall are the fields that a call's kind names.
func ofCall(x *api.Call) []field {
	switch x.Kind {
	case api.COpen:
		return ofParams(&x.Params)
	case api.CClose, api.CStats:
		return ofHandle(&x.Flow)
	case api.CSend:
		return append(ofHandle(&x.Flow), wholes(&x.ID, &x.Size)...)
	}
	return nil
}

func ofParams(p *api.Params) []field {
	f := wholes(&p.Weight, &p.Quantum, &p.Class, &p.Span, &p.Burst)
	f = append(f, (*rate)(&p.Rate))
	return append(f, wholes(&p.Per, &p.Node)...)
}

func ofHandle(h *api.Handle) []field { return wholes(&h.Slot, &h.Gen) }

// ofAnswer are the fields that a call of that kind is told, but for packets and departures.
func ofAnswer(kind int, t *api.Told) []field {
	switch kind {
	case api.COpen:
		return ofHandle(&t.Flow)
	case api.CSend:
		return wholes(&t.Seq)
	case api.CClose, api.CStats, api.CTotal:
		return ofBooks(&t.Books)
	}
	return nil
}

func ofBooks(b *api.Counters) []field {
	var f []field
	for _, c := range []*api.Count{&b.Offered, &b.Refused, &b.Evicted, &b.Departed, &b.Queued, &b.Sending} {
		f = append(f, wholes(&c.Packets, &c.Bytes)...)
	}
	return f
}

func ofPacket(p *api.Packet) []field {
	return append(ofHandle(&p.Flow), wholes(&p.ID, &p.Size, &p.Seq, &p.Came)...)
}

func ofDeparture(d *api.Departure) []field {
	return append(ofPacket(&d.Packet), wholes(&d.Began, &d.Left)...)
}

func ofRefusal(t *api.Told) []field { return []field{(*whole)(&t.Err)} }
