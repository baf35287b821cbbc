package flow

import (
	"millrace/api"
	"millrace/bucket"
	"millrace/num"
	"millrace/ring"
)

// flow is an open one: its books, its queue, and what it was opened with.
type flow struct {
	books
	*ring.Ring[api.Packet]
	params api.Params
	bucket *bucket.Bucket
}

// affords is whether the bucket has tokens for a packet of that size, which is above 0, at a tick.
func (f *flow) affords(size, at int) bool {
	// Sizes are whole, so the whole tokens tell; a bucket holds fewer than a word may.
	whole, _ := f.bucket.At(at).Floor().Uint()
	return whole >= uint64(size)
}

// tell is what is told of the flow, whose handle it does not know.
func (f *flow) tell(h api.Handle, at int) api.Flow {
	tokens, _ := num.ToFloat(f.bucket.At(at))
	return api.Flow{Handle: h, Params: f.params, Counters: f.Counters, Tokens: tokens, Queue: f.List()}
}
