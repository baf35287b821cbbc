package heap

// ahead tells whether x comes ahead of y, by one question: what came in first is ahead unless its key is behind.
func (h *Heap[K, V]) ahead(x, y *thing[K, V]) bool {
	if x.item < y.item {
		return !h.before(y.key, x.key)
	}
	return h.before(x.key, y.key)
}

// over tells whether x belongs above y along the places of p's kind.
func (h *Heap[K, V]) over(x, y *thing[K, V], p int) bool {
	if even(p) {
		return h.ahead(x, y)
	}
	return h.ahead(y, x)
}

// fill lays x where nothing holds its place any more. What lies below moves up first, so that x comes in at the bottom, as a new one does.
func (h *Heap[K, V]) fill(p int, x *thing[K, V]) {
	h.rise(h.sink(p), x)
}

// sink moves an empty place down to the bottom, and tells where it is then.
func (h *Heap[K, V]) sink(p int) int {
	for {
		next, ok := h.below(p)
		if !ok {
			return p
		}
		h.put(next, p)
		p = next
	}
}

// rise lays x at the empty place p, below which is nothing of its kind, or as far above as it belongs.
func (h *Heap[K, V]) rise(p int, x *thing[K, V]) {
	if len(h.places) > 1 {
		if other := h.across(p); h.over(x, h.places[other], other) {
			h.put(other, p)
			p = other
		}
	}
	for p > 1 && h.over(x, h.places[above(p)], p) {
		h.put(above(p), p)
		p = above(p)
	}
	h.places[p] = x
	x.place = p
}

// put moves what lies at a place to another one.
func (h *Heap[K, V]) put(from, to int) {
	x := h.places[from]
	h.places[to] = x
	x.place = to
}

// across is the place of the other kind that bounds what lies at the place p: its partner's, or, for a last one without a partner, the odd one above.
func (h *Heap[K, V]) across(p int) int {
	if partner := p ^ 1; partner < len(h.places) {
		return partner
	}
	return above(p) + 1
}

// below is, of the two places below p of its kind, the one whose thing belongs above the other one's.
func (h *Heap[K, V]) below(p int) (next int, ok bool) {
	pair := p/2*2 + 1
	left, ok := h.of(pair, p)
	if !ok {
		return 0, false
	}
	right, ok := h.of(pair+1, p)
	if ok && h.over(h.places[right], h.places[left], p) {
		return right, true
	}
	return left, true
}

// of is the pair's place of p's kind, if the pair has anything. One without a partner is at both of its places.
func (h *Heap[K, V]) of(pair, p int) (place int, ok bool) {
	place = 2 * pair
	if place >= len(h.places) {
		return 0, false
	}
	if even(p) || place+1 == len(h.places) {
		return place, true
	}
	return place + 1, true
}

// above is the place above p of its kind; p is at least 2.
func above(p int) int { return (p/2-1)/2*2 + p%2 }

// even tells whether a place is of those along which the first come up.
func even(p int) bool { return p%2 == 0 }
