package heap_test

import (
	"math/bits"
	"runtime"
	"slices"
	"testing"
	"weak"

	"millrace/api"
	"millrace/heap"
)

// 5.7

// asked counts the questions of a heap's order.
type asked struct {
	times int
	tell  func(a, b int) bool
}

func (a *asked) before(x, y int) bool {
	a.times++
	return a.tell(x, y)
}

// within holds the questions of one call against the bound for so many things ahead of it.
func (a *asked) within(t *testing.T, what string, length int, call func()) {
	t.Helper()
	a.times = 0
	call()
	if most := 12*bits.Len(uint(length)) + 12; a.times > most {
		t.Fatalf("%s of %d things asks %d times, at most %d", what, length, a.times, most)
	}
}

// atMost holds the questions of one call against a number.
func (a *asked) atMost(t *testing.T, what string, most int, call func()) {
	t.Helper()
	a.times = 0
	call()
	if a.times > most {
		t.Fatalf("%s asks %d times", what, a.times)
	}
}

// looks is within the bounds for the calls that only tell.
func (a *asked) looks(t *testing.T, h *heap.Heap[int, int], item int) {
	t.Helper()
	a.atMost(t, "Min", 2, func() { h.Min() })
	a.atMost(t, "Max", 2, func() { h.Max() })
	a.atMost(t, "Len", 0, func() { h.Len() })
	a.atMost(t, "Get", 0, func() { h.Get(item) })
	if h.Len() < 100 || item%64 == 0 {
		a.atMost(t, "All", 0, func() {
			for range h.All() {
			}
		})
	}
}

// use does every call at every number of things up to many, within the bounds.
func (a *asked) use(t *testing.T, many int, key func(i int) int) {
	t.Helper()
	h := heap.New[int, int](a.before)
	for i := range many {
		a.within(t, "Push", h.Len(), func() { h.Push(key(i), i) })
		a.within(t, "Update", h.Len(), func() { h.Update(1+i*31%(i+1), key(i+1)) })
		a.within(t, "Remove", h.Len(), func() { h.Remove(1 + i*17%(i+1)) })
		a.within(t, "Push", h.Len(), func() { h.Push(key(2*i), i) })
		a.looks(t, h, i)
	}
	a.within(t, "Update of none", 0, func() { h.Update(-1, 0) })
	a.within(t, "Remove of none", 0, func() { h.Remove(-1) })
	for i := 0; h.Len() > 0; i++ {
		a.within(t, "PopMin", h.Len(), func() { h.PopMin() })
		a.within(t, "Update", h.Len(), func() { h.Update(i*13%(2*many), key(i)) })
		a.within(t, "PopMax", h.Len(), func() { h.PopMax() })
		a.looks(t, h, i)
	}
	a.within(t, "PopMin of none", 0, func() { h.PopMin() })
	a.within(t, "PopMax of none", 0, func() { h.PopMax() })
}

func TestAsksFewTimes(t *testing.T) {
	n := noise(571)
	a := &asked{tell: less}
	for name, key := range map[string]func(int) int{
		"rising":  func(i int) int { return i },
		"falling": func(i int) int { return -i },
		"one key": func(int) int { return 0 },
		"outward": func(i int) int { return i * (1 - i%2*2) },
		"noise":   func(int) int { return n.below(1000) },
	} {
		t.Run(name, func(t *testing.T) { a.use(t, 2100, key) })
	}
}

func TestUpdatesOfAGreatHeapAskFewTimes(t *testing.T) {
	const many = 1 << 16
	a := &asked{tell: less}
	h := heap.New[int, int](a.before)
	for i := range many {
		a.within(t, "Push", h.Len(), func() { h.Push(i, i) })
	}
	for i := range many {
		a.within(t, "Update to the first", many, func() { h.Update(many-i, -i) })
		a.within(t, "Update to the last", many, func() { h.Update(many-i, many+i) })
	}
}

// 5.8

// liars are orders that are none.
func liars() map[string]func(a, b int) bool {
	n := noise(58)
	turn := 0
	return map[string]func(a, b int) bool{
		"always":   func(a, b int) bool { return true },
		"never":    func(a, b int) bool { return false },
		"noise":    func(a, b int) bool { return n.below(2) == 0 },
		"by turns": func(a, b int) bool { turn++; return turn%2 == 0 },
		"rarely":   func(a, b int) bool { turn++; return turn%7 == 0 },
		"round":    func(a, b int) bool { return (a-b+300)%3 == 1 },
		"no less":  func(a, b int) bool { return a <= b },
		"changing": func(a, b int) bool { turn++; return (a < b) == (turn/50%2 == 0) },
	}
}

// among holds an answer against what lies in the heap, and takes it out of the model.
func among(t *testing.T, what string, m *model, item, k int, v string, ok bool, out bool) {
	t.Helper()
	i := m.find(item)
	if ok != (len(m.things) > 0) || !ok && (item != 0 || k != 0 || v != "") {
		t.Fatalf("%s: %d %d %q %v of %v", what, item, k, v, ok, m.things)
	}
	if !ok {
		return
	}
	if want, is := m.at(i); !is || want != (entry{item, k, v}) {
		t.Fatalf("%s: %d %d %q is not of %v", what, item, k, v, m.things)
	}
	if out {
		m.take(i)
	}
}

// lied does a call that holds whatever the order tells.
func lied(t *testing.T, n *noise, h *texts, m *model, call int) {
	t.Helper()
	switch call {
	case 1:
		item, k, v, ok := h.PopMin()
		among(t, "PopMin", m, item, k, v, ok, true)
	case 2:
		item, k, v, ok := h.PopMax()
		among(t, "PopMax", m, item, k, v, ok, true)
	default:
		step(t, n, h, m, call)
	}
}

func TestWhateverTheOrderTells(t *testing.T) {
	n := noise(581)
	for name, tell := range liars() {
		t.Run(name, func(t *testing.T) {
			a := &asked{tell: tell}
			h, m := heap.New[int, string](a.before), modelOf()
			for i := range 900 {
				call := n.below(5)
				if i < 300 && n.below(2) == 0 {
					call = 0
				}
				a.within(t, "a call", h.Len(), func() { lied(t, &n, h, m, call) })
				if h.Len() != len(m.things) {
					t.Fatalf("Len %d, want %d", h.Len(), len(m.things))
				}
				item, k, v, ok := h.Min()
				among(t, "Min", m, item, k, v, ok, false)
				item, k, v, ok = h.Max()
				among(t, "Max", m, item, k, v, ok, false)
				for item := range m.pushed + 2 {
					k, v, ok := h.Get(item)
					want, is := m.at(m.find(item))
					gives(t, "Get", want.item, k, v, ok, want, is)
				}
			}
			var told []entry
			for item, k := range h.All() {
				told = append(told, entry{item, k, value(item)})
			}
			if !slices.Equal(told, m.byNumber()) {
				t.Fatalf("All: %v, want %v", told, m.byNumber())
			}
			for i := 0; len(m.things) > 0; i++ {
				lied(t, &n, h, m, 1+i%2)
			}
			holds(t, "emptied", h, m)
		})
	}
}

func TestLiarsAskFewTimes(t *testing.T) {
	for name, tell := range liars() {
		t.Run(name, func(t *testing.T) {
			a := &asked{tell: tell}
			a.use(t, 600, func(i int) int { return i * 7 % 101 })
		})
	}
}

func TestKeysThatAreNoNumbers(t *testing.T) {
	zero := 0.0
	h := heap.New[float64, int](func(a, b float64) bool { return a < b })
	for i := range 50 {
		k := float64(i)
		if i%3 == 0 {
			k = zero / zero
		}
		h.Push(k, i)
	}
	seen := make([]bool, 51)
	for h.Len() > 0 {
		item, _, v, ok := h.PopMax()
		if !ok || v != item-1 || seen[item] {
			t.Fatalf("%d %d %v", item, v, ok)
		}
		seen[item] = true
	}
}

// 5.9

func TestTwoHaveNothingInCommon(t *testing.T) {
	a, am := of(), modelOf()
	b, bm := heap.New[int, string](func(a, b int) bool { return a > b }), modelOf()
	n := noise(59)
	for i := range 200 {
		step(t, &n, a, am, n.below(5))
		if item := b.Push(i, value(bm.pushed+1)); item != bm.push(-i) {
			t.Fatalf("the other one's number: %d", item)
		}
	}
	holds(t, "a", a, am)
	empties(t, "a", a, am, 2)
	if b.Len() != 200 {
		t.Fatalf("Len %d", b.Len())
	}
	for i := range 200 {
		item, k, v, ok := b.PopMin()
		want, is := bm.take(0)
		gives(t, "b", item, -k, v, ok, want, is)
		if k != 199-i {
			t.Fatalf("b: %d at %d", k, i)
		}
	}
}

// load is large enough to be collected by itself.
type load struct {
	rank int
	mass [64]byte
}

func lighter(a, b *load) bool { return a.rank < b.rank }

// watched is a heap of n loads, each seen by no other, and both keys and values of it watched.
func watched(n int) (h *heap.Heap[*load, *load], keys, values []weak.Pointer[load]) {
	h = heap.New[*load, *load](lighter)
	for i := range n {
		k, v := &load{rank: i * 7 % (n + 1)}, &load{}
		keys, values = append(keys, weak.Make(k)), append(values, weak.Make(v))
		h.Push(k, v)
	}
	return h, keys, values
}

func TestKeepsNothingThatWasTakenOut(t *testing.T) {
	type loads = heap.Heap[*load, *load]
	calls := map[string]func(h *loads, i int){
		"PopMin":          func(h *loads, _ int) { h.PopMin() },
		"PopMax":          func(h *loads, _ int) { h.PopMax() },
		"Remove, rising":  func(h *loads, i int) { h.Remove(i + 1) },
		"Remove, falling": func(h *loads, _ int) { h.Remove(h.Len()) },
		"in a loop": func(h *loads, _ int) {
			for item := range h.All() {
				h.Remove(item)
				break
			}
		},
	}
	for name, call := range calls {
		for _, length := range []int{1, 2, 3, 4, 5, 16, 17, 100} {
			h, keys, values := watched(length)
			// The last thing stays, so that the heap is in use.
			h.Push(&load{rank: length / 2}, nil)
			for i := range length {
				call(h, i)
			}
			h.Update(length+1, &load{})
			left := h.Len()
			runtime.GC()
			kept := 0
			for i := range length {
				if keys[i].Value() != nil || values[i].Value() != nil {
					kept++
				}
			}
			if kept > left {
				t.Errorf("%s: of %d things it keeps %d, and %d lie in it", name, length, kept, left)
			}
			runtime.KeepAlive(h)
		}
	}
}

func TestKeepsNoOldKey(t *testing.T) {
	h, keys, values := watched(40)
	for i := range 40 {
		if e := h.Update(i+1, &load{rank: i * 11 % 41}); e != api.OK {
			t.Fatalf("Update: %d", e)
		}
	}
	runtime.GC()
	for i := range 40 {
		if keys[i].Value() != nil {
			t.Errorf("the old key of %d is kept", i+1)
		}
		if values[i].Value() == nil {
			t.Errorf("the value of %d is gone", i+1)
		}
	}
	runtime.KeepAlive(h)
}

func TestAllKeepsNothing(t *testing.T) {
	h, keys, _ := watched(9)
	all := h.All()
	for range all {
	}
	for h.Len() > 1 {
		h.PopMax()
	}
	runtime.GC()
	kept := 0
	for _, k := range keys {
		if k.Value() != nil {
			kept++
		}
	}
	if kept != 1 {
		t.Errorf("%d keys are kept behind a loop", kept)
	}
	for range all {
		kept--
	}
	if kept != 0 {
		t.Error("the last one is not told")
	}
}

func TestGivesItsMemoryBack(t *testing.T) {
	const many = 1 << 18
	inUse := func() uint64 {
		var m runtime.MemStats
		runtime.GC()
		runtime.ReadMemStats(&m)
		return m.HeapAlloc
	}
	h := of()
	before := inUse()
	for i := range many {
		h.Push(i*7919%many, "")
	}
	for range many - 1 {
		h.PopMin()
	}
	if after := inUse(); after > before+many {
		t.Errorf("a heap of one thing keeps %d bytes", after-before)
	}
	if _, k, _, ok := h.Max(); k != many-1 || !ok {
		t.Errorf("the last one: %d %v", k, ok)
	}
}
