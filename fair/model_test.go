package fair_test

import (
	"maps"
	"math/big"
	"slices"

	"millrace/api"
	"millrace/conf"
)

const lastTick = 1 << 62

// model is a scheduler as DOC.md words it: time goes tick by tick, turns are taken one by one, the fluid serves by bytes, every packet that was ever offered is kept, and whatever is told is reckoned from that anew.
type model struct {
	turns
	conf    api.Conf
	nodes   []api.Node // of a set-up that is no tree: the one leaf
	fluids  map[int]*stream
	time    int
	expired bool
	lanes   []lane
	offers  []offer
	link    []entry // what is on it, if something is
	began   int
	left    []api.Departure
	polled  int // how many of those a Poll has told
}

// lane is a slot: whose it is, if somebody's, and how often it was given.
type lane struct {
	open   bool
	given  int
	params api.Params
	level
}

// level is a bucket.
type level struct {
	time                int
	tokens, burst, rate *big.Rat
}

// What became of a packet that was offered.
const (
	refused = iota
	evicted
	departed
	queued
	sending
)

// offer is a packet that was ever offered, and what became of it.
type offer struct {
	flow api.Handle
	seq  int // 0 of a refused one
	size int
	fate int
}

// entry is a packet that is queued: at which leaf, and what it goes by there, if that goes by something.
type entry struct {
	api.Packet
	leaf       int
	start, key *big.Rat
}

func modelOf(c api.Conf) *model {
	m := &model{conf: c, nodes: slices.Clone(c.Nodes), fluids: map[int]*stream{}, lanes: make([]lane, c.Flows)}
	m.rings, m.deficits, m.turn = map[int][]int{}, map[seat]int{}, map[int]int{}
	if c.Kind != api.TREE {
		m.nodes = []api.Node{{Kind: c.Kind, Age: c.Age}}
	}
	for i, n := range m.nodes {
		if n.Kind == api.WFQ || n.Kind == api.WF2 {
			m.fluids[i] = &stream{v: new(big.Rat), flows: map[api.Handle]*share{}}
		}
	}
	return m
}

// stream is a fluid: it serves all that it has something of at one time.
type stream struct {
	v     *big.Rat
	flows map[api.Handle]*share
}

// share is what a fluid has of a flow.
type share struct {
	weight     int
	tag, bytes *big.Rat
}

func whole(n int) *big.Rat { return new(big.Rat).SetInt64(int64(n)) }

func sum(a, b *big.Rat) *big.Rat  { return new(big.Rat).Add(a, b) }
func less(a, b *big.Rat) *big.Rat { return new(big.Rat).Sub(a, b) }
func part(a, b *big.Rat) *big.Rat { return new(big.Rat).Quo(a, b) }
func prod(a, b *big.Rat) *big.Rat { return new(big.Rat).Mul(a, b) }

// tick serves one byte, from one moment at which a flow is done to the next.
func (x *stream) tick() {
	for rest := whole(1); rest.Sign() > 0 && len(x.flows) > 0; {
		weights := 0
		for _, s := range x.flows {
			weights += s.weight
		}
		span := rest
		for _, s := range x.flows {
			if done := part(prod(s.bytes, whole(weights)), whole(s.weight)); done.Cmp(span) < 0 {
				span = done
			}
		}
		x.v = sum(x.v, part(span, whole(weights)))
		rest = less(rest, span)
		for h, s := range x.flows {
			if s.bytes = less(s.bytes, part(prod(span, whole(s.weight)), whole(weights))); s.bytes.Sign() == 0 {
				delete(x.flows, h)
			}
		}
	}
	if len(x.flows) == 0 {
		x.v = new(big.Rat)
	}
}

// tags are the start and the tag of a packet that comes now. What the fluid is done with has a tag that V has reached.
func (x *stream) tags(h api.Handle, weight, size int) (*big.Rat, *big.Rat) {
	start := x.v
	if s := x.flows[h]; s != nil && s.tag.Cmp(start) > 0 {
		start = s.tag
	}
	return start, sum(start, big.NewRat(int64(size), int64(weight)))
}

func (x *stream) feed(h api.Handle, weight, size int, tag *big.Rat) {
	if x.flows[h] == nil {
		x.flows[h] = &share{weight: weight, bytes: new(big.Rat)}
	}
	x.flows[h].tag = tag
	x.flows[h].bytes = sum(x.flows[h].bytes, whole(size))
}

// at brings a bucket to a tick and tells what it has.
func (b *level) at(tick int) *big.Rat {
	b.tokens = sum(b.tokens, prod(b.rate, whole(tick-b.time)))
	b.time = tick
	if b.tokens.Cmp(b.burst) > 0 {
		b.tokens = b.burst
	}
	return b.tokens
}

// wait is the first tick at which there are n.
func (b *level) wait(n int) (int, api.Errno) {
	if b.tokens.Cmp(whole(n)) >= 0 {
		return b.time, api.OK
	}
	if b.rate.Sign() == 0 || b.burst.Cmp(whole(n)) < 0 {
		return 0, api.ErrPoliced
	}
	ticks := part(less(whole(n), b.tokens), b.rate)
	up, rest := new(big.Int).QuoRem(ticks.Num(), ticks.Denom(), new(big.Int))
	if rest.Sign() > 0 {
		up.Add(up, big.NewInt(1))
	}
	up.Add(up, big.NewInt(int64(b.time)))
	if up.Cmp(big.NewInt(lastTick)) > 0 {
		return 0, api.ErrPoliced
	}
	return int(up.Int64()), api.OK
}

// begins does what each call does first.
func (m *model) begins(reading int, poll bool) api.Errno {
	m.expired = m.expired || reading > lastTick
	if m.expired {
		return api.ErrExpired
	}
	for m.time < reading {
		m.happens(true)
		m.goesOn(reading)
	}
	m.happens(poll)
	return api.OK
}

// goesOn lets a tick go by, or all of them, if nothing can happen in them.
func (m *model) goesOn(to int) {
	quiet := len(m.queued) == 0 && len(m.link) == 0
	for _, x := range m.fluids {
		quiet = quiet && len(x.flows) == 0
	}
	if quiet {
		m.time = to
		return
	}
	for leaf, x := range m.fluids {
		waits := m.conf.Kind == api.TREE && len(m.at(leaf)) > 0 && (len(m.link) == 0 || m.link[0].leaf != leaf)
		if !waits {
			x.tick()
		}
	}
	m.time++
}

// happens does what happens at a tick: what has its stamp there leaves, and what is next begins, if packets are chosen now.
func (m *model) happens(chosen bool) {
	if len(m.link) > 0 && m.began+m.link[0].Size == m.time {
		p := m.link[0]
		m.link = nil
		m.becomes(p.Packet, departed)
		m.left = append(m.left, api.Departure{Packet: p.Packet, Began: m.began, Left: m.time})
	}
	if chosen && len(m.link) == 0 && len(m.queued) > 0 {
		p := m.choose(0)
		m.drop(p)
		m.becomes(p.Packet, sending)
		m.link, m.began = []entry{p}, m.time
	}
}

func (m *model) becomes(p api.Packet, fate int) {
	for i := range m.offers {
		if m.offers[i].seq == p.Seq {
			m.offers[i].fate = fate
		}
	}
}

// lane is that of an open flow, nil of another handle.
func (m *model) lane(h api.Handle) *lane {
	if h.Slot < 0 || h.Slot >= len(m.lanes) {
		return nil
	}
	if l := &m.lanes[h.Slot]; l.open && l.given == h.Gen {
		return l
	}
	return nil
}

// opened are the handles of the open flows, by rising slot.
func (m *model) opened() []api.Handle {
	var all []api.Handle
	for i, l := range m.lanes {
		if l.open {
			all = append(all, api.Handle{Slot: i, Gen: l.given})
		}
	}
	return all
}

// weights are those that count.
func (m *model) weights() int {
	n := 0
	for _, h := range m.opened() {
		n += m.lane(h).params.Weight
	}
	for _, x := range m.fluids {
		for h, s := range x.flows {
			if m.lane(h) == nil {
				n += s.weight
			}
		}
	}
	return n
}

func (m *model) open(p api.Params) (api.Handle, api.Errno) {
	if e := conf.CheckFlow(m.conf, p); e != api.OK {
		return api.Handle{}, e
	}
	for i := range m.lanes {
		l := &m.lanes[i]
		if l.open {
			continue
		}
		if m.weights()+p.Weight > m.conf.Cap {
			return api.Handle{}, api.ErrCrowded
		}
		rate := part(new(big.Rat).SetFloat64(p.Rate), whole(p.Per))
		*l = lane{true, l.given + 1, p, level{m.time, new(big.Rat), whole(p.Burst), rate}}
		return api.Handle{Slot: i, Gen: l.given}, api.OK
	}
	return api.Handle{}, api.ErrFull
}

// queueOf is what is queued of a flow, the first one first.
func (m *model) queueOf(h api.Handle) []api.Packet {
	var l []api.Packet
	for _, x := range m.queued {
		if x.Flow == h {
			l = append(l, x.Packet)
		}
	}
	return l
}

// lose lets a packet go that is never sent.
func (m *model) lose(p api.Packet) {
	for _, x := range m.queued {
		if x.Seq == p.Seq {
			m.drop(x)
		}
	}
	m.becomes(p, evicted)
}

func (m *model) close(h api.Handle) ([]api.Packet, api.Counters, api.Errno) {
	l := m.lane(h)
	if l == nil {
		return nil, api.Counters{}, api.ErrHandle
	}
	gone := m.queueOf(h)
	for _, p := range gone {
		m.lose(p)
	}
	l.open = false
	return gone, m.books(func(x api.Handle) bool { return x == h }), api.OK
}

func (m *model) bytes() int {
	n := 0
	for _, x := range append(slices.Clone(m.queued), m.link...) {
		n += x.Size
	}
	return n
}

// seq is the number of the last packet that was admitted.
func (m *model) seq() int {
	n := 0
	for _, o := range m.offers {
		n = max(n, o.seq)
	}
	return n
}

func (m *model) enqueue(h api.Handle, id, size int) (int, []api.Packet, api.Errno) {
	l := m.lane(h)
	if l == nil {
		return 0, nil, api.ErrHandle
	}
	if size < 1 || size > m.conf.Most {
		return 0, nil, api.ErrSize
	}
	x := m.comes(api.Packet{Flow: h, ID: id, Size: size, Seq: m.seq() + 1, Came: m.time})
	gone, e := m.judges(l, x)
	if e != api.OK {
		m.offers = append(m.offers, offer{flow: h, size: size, fate: refused})
		return 0, nil, e
	}
	for _, p := range gone {
		m.lose(p)
	}
	l.tokens = less(l.tokens, whole(size))
	if f := m.fluids[x.leaf]; f != nil {
		f.feed(h, l.params.Weight, size, x.key)
	}
	m.offers = append(m.offers, offer{h, x.Seq, size, queued})
	m.push(x)
	return x.Seq, gone, api.OK
}

// comes is a packet of an open flow with what it goes by.
func (m *model) comes(p api.Packet) entry {
	params := m.lane(p.Flow).params
	x := entry{Packet: p, leaf: params.Node}
	switch m.nodes[x.leaf].Kind {
	case api.WFQ, api.WF2:
		x.start, x.key = m.fluids[x.leaf].tags(p.Flow, params.Weight, p.Size)
	case api.EDF:
		x.key = whole(p.Came + params.Span)
	case api.AGE:
		x.key = whole(p.Came + params.Class*m.nodes[x.leaf].Age)
	}
	return x
}

// judges is who goes for a packet, or why it may not come.
func (m *model) judges(l *lane, x entry) ([]api.Packet, api.Errno) {
	if l.at(m.time).Cmp(whole(x.Size)) < 0 {
		return nil, api.ErrPoliced
	}
	if m.fluids[x.leaf] != nil && x.key.Denom().BitLen() > 2048 {
		return nil, api.ErrDeep
	}
	var gone []api.Packet
	rest := append(slices.Clone(m.queued), x)
	for lack := m.bytes() + x.Size - m.conf.Room; lack > 0; {
		w := m.worst(0, rest)
		if w.Seq == x.Seq {
			return nil, api.ErrRefused
		}
		rest = slices.DeleteFunc(rest, func(y entry) bool { return y.Seq == w.Seq })
		gone = append(gone, w.Packet)
		lack -= w.Size
	}
	return gone, api.OK
}

func (m *model) poll() []api.Departure {
	told := m.left[m.polled:]
	m.polled = len(m.left)
	return told
}

// books are those of the flows of which is true.
func (m *model) books(which func(api.Handle) bool) api.Counters {
	var c api.Counters
	enter := func(n *api.Count, o offer) { n.Packets, n.Bytes = n.Packets+1, n.Bytes+o.size }
	for _, o := range m.offers {
		if which(o.flow) {
			enter(&c.Offered, o)
			enter([]*api.Count{&c.Refused, &c.Evicted, &c.Departed, &c.Queued, &c.Sending}[o.fate], o)
		}
	}
	return c
}

func (m *model) total() api.Counters { return m.books(func(api.Handle) bool { return true }) }

func (m *model) stats(h api.Handle) (api.Counters, api.Errno) {
	if m.lane(h) == nil {
		return api.Counters{}, api.ErrHandle
	}
	return m.books(func(x api.Handle) bool { return x == h }), api.OK
}

// delays are those of some departures, the least first.
func delays(l []api.Departure) []int {
	var all []int
	for _, d := range l {
		all = append(all, d.Left-d.Came)
	}
	slices.Sort(all)
	return all
}

// spans is how many delays were 0, 1, 2 to 3, and so on.
func spans(delays []int) []int {
	var l []int
	for first, next := 0, 1; len(delays) > 0; first, next = next, max(2*next, 1) {
		n := 0
		for len(delays) > 0 && delays[0] < next && delays[0] >= first {
			n, delays = n+1, delays[1:]
		}
		l = append(l, n)
	}
	return l
}

func near(x *big.Rat) float64 {
	a, _ := x.Float64()
	return a
}

// gauge is what is told of all that left, reckoned by the library's fractions.
func (m *model) gauge() api.Gauge {
	g := api.Gauge{Fairness: m.fairness()}
	if m.time > 0 {
		bytes := 0
		for _, d := range m.left {
			bytes += d.Size
		}
		g.Share = near(part(whole(bytes), whole(m.time)))
	}
	l := delays(m.left)
	if len(l) == 0 {
		return g
	}
	all := new(big.Rat)
	for _, d := range l {
		all = sum(all, whole(d))
	}
	g.Mean = near(part(all, whole(len(l))))
	g.Greatest = float64(l[len(l)-1])
	g.Half = float64(l[(len(l)+1)/2-1])
	g.Tail = float64(l[(99*len(l)+99)/100-1])
	return g
}

func (m *model) fairness() float64 {
	shares, squares := new(big.Rat), new(big.Rat)
	for _, h := range m.opened() {
		books, _ := m.stats(h)
		s := part(whole(books.Departed.Bytes), whole(m.lane(h).params.Weight))
		shares, squares = sum(shares, s), sum(squares, prod(s, s))
	}
	if squares.Sign() == 0 {
		return 1
	}
	return near(part(prod(shares, shares), prod(squares, whole(len(m.opened())))))
}

func (m *model) snapshot() api.Snapshot {
	s := api.Snapshot{Time: m.time, Total: m.total(), Gauge: m.gauge(), Delays: spans(delays(m.left))}
	for _, h := range m.opened() {
		l := m.lane(h)
		own := slices.DeleteFunc(slices.Clone(m.left), func(d api.Departure) bool { return d.Flow != h })
		late := 0
		for _, d := range own {
			if m.nodes[l.params.Node].Kind == api.EDF && d.Left > d.Came+l.params.Span {
				late++
			}
		}
		books, _ := m.stats(h)
		s.Flows = append(s.Flows, api.Flow{
			Handle: h, Params: l.params, Counters: books, Tokens: near(l.at(m.time)),
			Queue: m.queueOf(h), Delays: spans(delays(own)), Late: late,
		})
	}
	for _, x := range m.link {
		s.Busy, s.Now, s.Until = true, x.Packet, m.began+x.Size
	}
	return s
}

func (m *model) due() (int, bool) {
	switch {
	case len(m.link) > 0:
		return m.began + m.link[0].Size, true
	case len(m.queued) > 0:
		return m.time, true
	}
	return 0, false
}

func (m *model) wait(h api.Handle, size int) (int, api.Errno) {
	l := m.lane(h)
	if l == nil {
		return 0, api.ErrHandle
	}
	if size < 1 || size > m.conf.Most {
		return 0, api.ErrSize
	}
	l.at(m.time)
	return l.wait(size)
}

// seat is a place in the ring of a node: of a tree's node a child's, of a DRR leaf the slot of a flow.
type seat struct{ node, member int }

// turns is what is queued, and how turns stand. The flows of a DRR leaf and the children of a tree's node take them alike.
type turns struct {
	queued   []entry // by numbers
	rings    map[int][]int
	deficits map[seat]int
	turn     map[int]int
}

// dry is a model that may take turns without this one's taking them.
func (m *model) dry() *model {
	x := *m
	x.rings, x.deficits, x.turn = maps.Clone(m.rings), maps.Clone(m.deficits), maps.Clone(m.turn)
	return &x
}

// at is what is queued at a leaf.
func (m *model) at(leaf int) []entry {
	return pick(m.queued, func(x entry) bool { return x.leaf == leaf })
}

func pick(l []entry, which func(entry) bool) []entry {
	return slices.DeleteFunc(slices.Clone(l), func(x entry) bool { return !which(x) })
}

// of is what some packets have of a member of a node's ring.
func (m *model) of(l []entry, s seat) []entry {
	if m.nodes[s.node].Kind == api.DRR {
		return pick(l, func(x entry) bool { return x.leaf == s.node && x.Flow.Slot == s.member })
	}
	return pick(l, func(x entry) bool {
		node := x.leaf
		for node != 0 && node != s.member {
			node = m.nodes[node].Parent
		}
		return node == s.member
	})
}

// seats are all that may be in a node's ring, by rising numbers.
func (m *model) seats(node int) []seat {
	var l []seat
	if m.nodes[node].Kind == api.DRR {
		for slot := range m.lanes {
			l = append(l, seat{node, slot})
		}
		return l
	}
	for child := 1; child < len(m.nodes); child++ {
		if m.nodes[child].Parent == node {
			l = append(l, seat{node, child})
		}
	}
	return l
}

func (m *model) quantum(s seat) int {
	if m.nodes[s.node].Kind == api.DRR {
		return m.lanes[s.member].params.Quantum
	}
	return m.nodes[s.member].Quantum
}

// first is what the member of a ring would send now.
func (m *model) first(s seat) entry {
	if m.nodes[s.node].Kind == api.DRR {
		return m.of(m.queued, s)[0]
	}
	return m.dry().choose(s.member)
}

// choose is what a node sends next, and takes the turns that this takes.
func (m *model) choose(node int) entry {
	switch m.nodes[node].Kind {
	case api.TREE, api.DRR:
		return m.takeTurns(node)
	case api.WF2:
		heads := pick(m.at(node), func(x entry) bool { return m.queueOf(x.Flow)[0] == x.Packet })
		if begun := pick(heads, func(x entry) bool { return x.start.Cmp(m.fluids[node].v) <= 0 }); len(begun) > 0 {
			return slices.MinFunc(begun, order)
		}
		return slices.MinFunc(heads, order)
	}
	return slices.MinFunc(m.at(node), order)
}

func order(x, y entry) int {
	if c := x.key.Cmp(y.key); c != 0 {
		return c
	}
	return x.Seq - y.Seq
}

func (m *model) takeTurns(node int) entry {
	for {
		if _, ok := m.turn[node]; !ok {
			head := m.rings[node][0]
			m.turn[node] = head
			m.deficits[seat{node, head}] += m.quantum(seat{node, head})
		}
		s := seat{node, m.turn[node]}
		if p := m.first(s); p.Size <= m.deficits[s] {
			if m.nodes[node].Kind == api.TREE {
				m.choose(s.member)
			}
			m.deficits[s] -= p.Size
			return p
		}
		m.rings[node] = append(slices.Clone(m.rings[node][1:]), s.member)
		delete(m.turn, node)
	}
}

// push queues a packet, and lets all into their rings who had nothing.
func (m *model) push(x entry) {
	for node := range m.nodes {
		if kind := m.nodes[node].Kind; kind != api.TREE && kind != api.DRR {
			continue
		}
		for _, s := range m.seats(node) {
			if len(m.of(m.queued, s)) == 0 && len(m.of([]entry{x}, s)) > 0 {
				m.rings[node] = append(slices.Clone(m.rings[node]), s.member)
			}
		}
	}
	m.queued = append(slices.Clone(m.queued), x)
}

// drop takes a packet out, and all who have nothing left out of their rings.
func (m *model) drop(x entry) {
	m.queued = pick(m.queued, func(y entry) bool { return y.Seq != x.Seq })
	for node, ring := range m.rings {
		for _, member := range ring {
			if s := (seat{node, member}); len(m.of(m.queued, s)) == 0 {
				m.rings[node] = slices.DeleteFunc(slices.Clone(m.rings[node]), func(y int) bool { return y == member })
				m.deficits[s] = 0
				if holder, ok := m.turn[node]; ok && holder == member {
					delete(m.turn, node)
				}
			}
		}
	}
}

// worst is the one of some packets that a node would lose first.
func (m *model) worst(node int, l []entry) entry {
	kind := m.nodes[node].Kind
	if kind != api.TREE && kind != api.DRR {
		return slices.MaxFunc(pick(l, func(x entry) bool { return x.leaf == node }), order)
	}
	var most *big.Rat
	var at seat
	for _, s := range m.seats(node) {
		bytes := 0
		for _, x := range m.of(l, s) {
			bytes += x.Size
		}
		if bytes == 0 {
			continue
		}
		if share := part(whole(bytes), whole(m.quantum(s))); most == nil || share.Cmp(most) >= 0 {
			most, at = share, s
		}
	}
	if kind == api.TREE {
		return m.worst(at.member, l)
	}
	own := m.of(l, at)
	return own[len(own)-1]
}
