package trace

import "millrace/api"

// mayBeAsked is whether a call's kind is one, and nothing stands in the fields that it does not name.
func mayBeAsked(x api.Call) bool {
	switch x.Kind {
	case api.COpen:
		x.Params = api.Params{}
	case api.CSend:
		x.ID, x.Size = 0, 0
		fallthrough
	case api.CClose, api.CStats:
		x.Flow = api.Handle{}
	case api.CPoll, api.CTotal:
	default:
		return false
	}
	x.Kind, x.Reading = 0, 0
	// A rate of -0 is equal to 0, but its text would not say it.
	return x == api.Call{} && api.Bits(x.Params.Rate) == 0
}

// mayBeTold is whether a trace has a text, were there room for it.
func mayBeTold(t api.Trace) bool {
	if len(t.Told) != len(t.Calls) || !isDiscipline(t.Conf.Kind) {
		return false
	}
	for _, n := range t.Conf.Nodes {
		if !isDiscipline(n.Kind) {
			return false
		}
	}
	for i, x := range t.Calls {
		if !mayBeAsked(x) || !mayAnswer(x.Kind, t.Told[i]) {
			return false
		}
	}
	return true
}

// mayAnswer is whether nothing stands in what a call was told but what its kind may be told.
func mayAnswer(kind int, t api.Told) bool {
	switch {
	case t.Err < 0:
		return false
	case t.Err == api.OK:
		t = withoutAnswer(kind, t)
	}
	return t.Flow == api.Handle{} && t.Seq == 0 && t.Books == api.Counters{} && len(t.Packets) == 0 && len(t.Left) == 0
}

// withoutAnswer is t with the fields taken off that a call of that kind may be told.
func withoutAnswer(kind int, t api.Told) api.Told {
	switch kind {
	case api.COpen:
		t.Flow = api.Handle{}
	case api.CSend:
		t.Seq, t.Packets = 0, nil
	case api.CPoll:
		t.Left = nil
	case api.CClose:
		t.Packets = nil
		fallthrough
	case api.CStats, api.CTotal:
		t.Books = api.Counters{}
	}
	return t
}
