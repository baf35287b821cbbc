package heap_test

import (
	"cmp"
	"math"
	"slices"
	"testing"

	"millrace/api"
	"millrace/heap"
)

// noise gives the same words in every run.
type noise uint64

func (n *noise) word() uint64 {
	*n += 0x9e3779b97f4a7c15
	z := uint64(*n)
	z = (z ^ z>>30) * 0xbf58476d1ce4e5b9
	z = (z ^ z>>27) * 0x94d049bb133111eb
	return z ^ z>>31
}

func (n *noise) below(bound int) int {
	return int(n.word() % uint64(bound))
}

// texts is a heap of the kind that most tests use.
type texts = heap.Heap[int, string]

func less(a, b int) bool { return a < b }

// entry is a thing as the calls tell it.
type entry struct {
	item, key int
	value     string
}

// value is the text that goes with a number in these tests.
func value(item int) string { return string(rune('a' + item%26)) }

// of is a heap of these keys; the numbers are 1, 2, ..
func of(keys ...int) *texts {
	h := heap.New[int, string](less)
	for i, k := range keys {
		h.Push(k, value(i+1))
	}
	return h
}

// model does by a plain list what is asked of the heap.
type model struct {
	things []entry // in their order
	pushed int
}

// modelOf is a model of these keys.
func modelOf(keys ...int) *model {
	m := &model{}
	for _, k := range keys {
		m.push(k)
	}
	return m
}

func (m *model) sort() {
	slices.SortFunc(m.things, func(a, b entry) int {
		return cmp.Or(cmp.Compare(a.key, b.key), cmp.Compare(a.item, b.item))
	})
}

func (m *model) push(k int) int {
	m.pushed++
	m.things = append(m.things, entry{m.pushed, k, value(m.pushed)})
	m.sort()
	return m.pushed
}

// find is the place of a number in the order, or -1.
func (m *model) find(item int) int {
	return slices.IndexFunc(m.things, func(e entry) bool { return e.item == item })
}

// at is the entry at a place, if there is one.
func (m *model) at(i int) (entry, bool) {
	if i < 0 || i >= len(m.things) {
		return entry{}, false
	}
	return m.things[i], true
}

func (m *model) take(i int) (entry, bool) {
	e, ok := m.at(i)
	if ok {
		m.things = slices.Delete(m.things, i, i+1)
	}
	return e, ok
}

func (m *model) update(item, k int) api.Errno {
	i := m.find(item)
	if i < 0 {
		return api.ErrItem
	}
	m.things[i].key = k
	m.sort()
	return api.OK
}

// byNumber is all entries by rising numbers.
func (m *model) byNumber() []entry {
	list := slices.Clone(m.things)
	slices.SortFunc(list, func(a, b entry) int { return cmp.Compare(a.item, b.item) })
	return list
}

// gives holds an answer against an entry, or against zero values beside a false.
func gives(t *testing.T, what string, item, k int, v string, ok bool, want entry, is bool) {
	t.Helper()
	if got := (entry{item, k, v}); got != want || ok != is {
		t.Fatalf("%s: %v %v, want %v %v", what, got, ok, want, is)
	}
}

// holds asks for all that the heap holds by every call that only tells.
func holds(t *testing.T, what string, h *texts, m *model) {
	t.Helper()
	if h.Len() != len(m.things) {
		t.Fatalf("%s: Len %d, want %v", what, h.Len(), m.things)
	}
	item, k, v, ok := h.Min()
	want, is := m.at(0)
	gives(t, what+": Min", item, k, v, ok, want, is)
	item, k, v, ok = h.Max()
	want, is = m.at(len(m.things) - 1)
	gives(t, what+": Max", item, k, v, ok, want, is)
	list := m.byNumber()
	told := 0
	for item, k := range h.All() {
		if told == len(list) || item != list[told].item || k != list[told].key {
			t.Fatalf("%s: All tells %d %d at %d, want %v", what, item, k, told, list)
		}
		told++
	}
	if told != len(list) {
		t.Fatalf("%s: All tells %d things, want %v", what, told, list)
	}
	for item := range m.pushed + 2 {
		k, v, ok := h.Get(item)
		want, is := m.at(m.find(item))
		gives(t, what+": Get", want.item, k, v, ok, want, is)
	}
}

// empties takes all out of both, by PopMin (0), PopMax (1), or by turns (2).
func empties(t *testing.T, what string, h *texts, m *model, way int) {
	t.Helper()
	for turn := 0; ; turn++ {
		pop, at, name := h.PopMin, 0, what+": PopMin"
		if way == 1 || way == 2 && turn%2 == 1 {
			pop, at, name = h.PopMax, len(m.things)-1, what+": PopMax"
		}
		item, k, v, ok := pop()
		want, is := m.take(at)
		gives(t, name, item, k, v, ok, want, is)
		if h.Len() != len(m.things) {
			t.Fatalf("%s: Len %d, want %d", name, h.Len(), len(m.things))
		}
		if !ok {
			return
		}
	}
}

// 5.1

func TestNew(t *testing.T) {
	if heap.New[int, string](nil) != nil {
		t.Error("without an order")
	}
	h := heap.New[int, string](less)
	if h == nil {
		t.Fatal("New gives none")
	}
	holds(t, "New", h, &model{})
}

func TestNumbersNeverComeAgain(t *testing.T) {
	h, m := of(), modelOf()
	outs := []func(){
		func() {},
		func() { h.PopMin(); m.take(0) },
		func() { h.PopMax(); m.take(len(m.things) - 1) },
		func() { h.Remove(m.pushed); m.take(m.find(m.pushed)) },
		func() { h.Update(m.pushed, -9); m.update(m.pushed, -9) },
		func() { h.Update(99, 1); h.Remove(99) },
	}
	for i := range 60 {
		if item, want := h.Push(i*7%11, value(m.pushed+1)), m.push(i*7%11); item != want {
			t.Fatalf("Push tells %d, want %d", item, want)
		}
		outs[i%len(outs)]()
		holds(t, "pushed", h, m)
	}
	for h.Len() > 0 {
		h.PopMin()
	}
	if item := h.Push(1, "x"); item != 61 || h.Len() != 1 {
		t.Errorf("behind an empty heap: %d, Len %d", item, h.Len())
	}
}

// 5.2

func TestExample(t *testing.T) {
	h, m := of(5, 3, 5), modelOf(5, 3, 5)
	holds(t, "pushed", h, m)
	item, k, v, ok := h.Min()
	gives(t, "Min", item, k, v, ok, entry{2, 3, value(2)}, true)
	item, k, v, ok = h.Max()
	gives(t, "Max", item, k, v, ok, entry{3, 5, value(3)}, true)
	item, k, v, ok = h.PopMax()
	gives(t, "PopMax", item, k, v, ok, entry{3, 5, value(3)}, true)
	item, k, v, ok = h.PopMax()
	gives(t, "PopMax", item, k, v, ok, entry{1, 5, value(1)}, true)
	if h.Len() != 1 || h.Update(3, 9) != api.ErrItem || h.Update(2, 70) != api.OK {
		t.Fatal("one is left")
	}
	item, k, v, ok = h.Min()
	gives(t, "Min", item, k, v, ok, entry{2, 70, value(2)}, true)
	item, k, v, ok = h.Max()
	gives(t, "Max of one", item, k, v, ok, entry{2, 70, value(2)}, true)
}

func TestNothingAtTheEndsOfAnEmptyOne(t *testing.T) {
	emptied := of(5, 6, 7)
	empties(t, "emptied", emptied, modelOf(5, 6, 7), 2)
	for _, h := range []*texts{of(), emptied} {
		for range 2 {
			for _, call := range []func() (int, int, string, bool){h.Min, h.Max, h.PopMin, h.PopMax} {
				item, k, v, ok := call()
				gives(t, "of an empty one", item, k, v, ok, entry{}, false)
			}
		}
		if h.Len() != 0 {
			t.Errorf("Len %d", h.Len())
		}
	}
}

func TestKeysThatAreAsMuchGoByNumbers(t *testing.T) {
	for n := range 40 {
		keys := make([]int, n)
		for way := range 3 {
			empties(t, "one key", of(keys...), modelOf(keys...), way)
		}
	}
	// Keys of which the order sees only a part.
	h := heap.New[entry, int](func(a, b entry) bool { return a.key < b.key })
	for i := range 30 {
		h.Push(entry{item: 30 - i, key: i % 3}, i)
	}
	for i := range 30 {
		item, k, v, _ := h.PopMin()
		if want := i%10*3 + i/10; v != want || item != want+1 || k.item != 30-want || k.key != i/10 {
			t.Fatalf("the %d. is %d %v %d", i, item, k, v)
		}
	}
}

func TestOtherOrders(t *testing.T) {
	h := heap.New[string, int](func(a, b string) bool { return a > b })
	for i, k := range []string{"b", "", "d", "a", "c"} {
		h.Push(k, i)
	}
	told := ""
	for range 5 {
		_, k, _, _ := h.PopMin()
		told += k + "."
	}
	if told != "d.c.b.a.." {
		t.Errorf("turned round: %s", told)
	}
	if item, k, v, ok := h.PopMax(); item != 0 || k != "" || v != 0 || ok {
		t.Errorf("empty: %d %q %d %v", item, k, v, ok)
	}
}

// 5.3

func TestNumbersOfNothing(t *testing.T) {
	h, m := of(4, 2, 9, 2, 7), modelOf(4, 2, 9, 2, 7)
	h.Remove(3)
	m.take(m.find(3))
	h.PopMin()
	m.take(0)
	for _, item := range []int{0, -1, -2, 2, 3, 6, 7, 1 << 32, 1<<32 + 1, math.MaxInt, math.MinInt, math.MinInt + 1} {
		k, v, ok := h.Get(item)
		gives(t, "Get", 0, k, v, ok, entry{}, false)
		k, v, ok = h.Remove(item)
		gives(t, "Remove", 0, k, v, ok, entry{}, false)
		if e := h.Update(item, 5); e != api.ErrItem {
			t.Errorf("Update(%d): %d", item, e)
		}
		holds(t, "refused", h, m)
	}
	empties(t, "refused", h, m, 2)
}

func TestRemoveEach(t *testing.T) {
	n := noise(53)
	for length := 1; length < 40; length++ {
		keys := make([]int, length)
		for i := range keys {
			keys[i] = n.below(length)
		}
		for item := 1; item <= length; item++ {
			h, m := of(keys...), modelOf(keys...)
			k, v, ok := h.Remove(item)
			want, is := m.take(m.find(item))
			gives(t, "Remove", item, k, v, ok, want, is)
			k, v, ok = h.Remove(item)
			gives(t, "Remove again", 0, k, v, ok, entry{}, false)
			holds(t, "removed", h, m)
			empties(t, "removed", h, m, item%3)
		}
	}
}

func TestGetTakesNothingOut(t *testing.T) {
	h := of(8, 6)
	for range 3 {
		k, v, ok := h.Get(1)
		gives(t, "Get", 1, k, v, ok, entry{1, 8, value(1)}, true)
	}
	holds(t, "got", h, modelOf(8, 6))
}

// 5.4

func TestUpdateEach(t *testing.T) {
	n := noise(54)
	for length := 1; length < 24; length++ {
		keys := make([]int, length)
		for i := range keys {
			keys[i] = 2 * n.below(length)
		}
		for item := 1; item <= length; item++ {
			for k := -1; k <= 2*length; k++ {
				h, m := of(keys...), modelOf(keys...)
				if e := h.Update(item, k); e != m.update(item, k) {
					t.Fatalf("Update(%d, %d): %d", item, k, e)
				}
				holds(t, "updated", h, m)
				empties(t, "updated", h, m, k&1)
			}
		}
	}
}

func TestUpdateKeepsTheNumber(t *testing.T) {
	h, m := of(1, 2, 2, 2, 3), modelOf(1, 2, 2, 2, 3)
	for _, c := range []struct{ item, key int }{{5, 2}, {1, 2}, {5, 9}, {5, 2}, {3, 0}, {3, 2}} {
		h.Update(c.item, c.key)
		m.update(c.item, c.key)
		holds(t, "updated", h, m)
	}
	for want := 1; want <= 5; want++ {
		item, k, v, ok := h.PopMin()
		gives(t, "by numbers", item, k, v, ok, entry{want, 2, value(want)}, true)
	}
}

// 5.5

// pairs is what a range over all tells.
func pairs(h *texts) []int {
	var told []int
	for item, k := range h.All() {
		told = append(told, item, k)
	}
	return told
}

func TestAllGivesWhatLayInItAtTheBeginning(t *testing.T) {
	changes := map[string]func(*texts){
		"Push":   func(h *texts) { h.Push(-50, "x") },
		"PopMin": func(h *texts) { h.PopMin() },
		"PopMax": func(h *texts) { h.PopMax() },
		"Remove": func(h *texts) { h.Remove(3) },
		"Update": func(h *texts) { h.Update(4, 77); h.Update(1, -77); h.Update(9, 5) },
		"all out": func(h *texts) {
			for h.Len() > 0 {
				h.PopMin()
			}
		},
	}
	keys := []int{5, 9, 1, 3, 3, 8, 0, 5, 2}
	want := pairs(of(keys...))
	for name, change := range changes {
		h := of(keys...)
		var told []int
		for item, k := range h.All() {
			told = append(told, item, k)
			change(h)
		}
		if !slices.Equal(told, want) {
			t.Errorf("%s: %v, want %v", name, told, want)
		}
	}
}

func TestAllMayBeRangedOverAgain(t *testing.T) {
	h := of(30, 10, 20)
	all := h.All()
	h.Push(5, "d")
	var told []int
	for item := range all {
		told = append(told, item)
		h.PopMin()
		for item, k := range all {
			told = append(told, item*100+k)
		}
	}
	want := []int{1, 130, 210, 320, 2, 130, 320, 3, 130, 4}
	if !slices.Equal(told, want) {
		t.Fatalf("within its own loop: %v, want %v", told, want)
	}
	for range all {
		t.Fatal("of an empty one")
	}
	h.Push(9, "e")
	h.Update(5, 8)
	for item, k := range all {
		if item != 5 || k != 8 {
			t.Fatalf("later: %d %d", item, k)
		}
	}
}

func TestAllStopsWhereItsLoopDoes(t *testing.T) {
	h := of(4, 3, 2, 1)
	all := h.All()
	for range 2 {
		told := 0
		for item, k := range all {
			told += k
			if item == 2 {
				break
			}
		}
		if told != 7 {
			t.Fatalf("told %d", told)
		}
	}
	calls := 0
	all(func(int, int) bool {
		calls++
		return false
	})
	if calls != 1 {
		t.Fatalf("%d calls behind a false", calls-1)
	}
	func() {
		defer func() { recover() }()
		for range all {
			panic("out")
		}
	}()
	holds(t, "behind a panic", h, modelOf(4, 3, 2, 1))
}

func TestAllByRisingNumbers(t *testing.T) {
	n := noise(55)
	h, m := of(), modelOf()
	for range 500 {
		k := n.below(100)
		h.Push(k, value(m.pushed+1))
		m.push(k)
	}
	for range 200 {
		item := 1 + n.below(500)
		h.Remove(item)
		m.take(m.find(item))
		h.Update(item+1, -item)
		m.update(item+1, -item)
	}
	holds(t, "many", h, m)
}

// 5.6

// rows gives every row of up to most keys below most.
func rows(most int, each func(keys []int)) {
	var grow func(keys []int)
	grow = func(keys []int) {
		each(keys)
		if len(keys) == most {
			return
		}
		for k := range most {
			grow(append(slices.Clone(keys), k))
		}
	}
	grow(nil)
}

func TestShortRowsComeInOrder(t *testing.T) {
	rows(5, func(keys []int) {
		for way := range 3 {
			empties(t, "short row", of(keys...), modelOf(keys...), way)
		}
	})
}

func TestLongRowsComeInOrder(t *testing.T) {
	n := noise(56)
	for _, length := range []int{6, 7, 8, 9, 15, 16, 17, 31, 32, 33, 63, 64, 65, 400} {
		for spread := 1; spread < 2000; spread *= 7 {
			keys := make([]int, length)
			for i := range keys {
				keys[i] = n.below(spread)
			}
			for way := range 3 {
				empties(t, "long row", of(keys...), modelOf(keys...), way)
			}
			slices.Sort(keys)
			empties(t, "rising row", of(keys...), modelOf(keys...), 2)
			slices.Reverse(keys)
			empties(t, "falling row", of(keys...), modelOf(keys...), 2)
		}
	}
}

// step does the same to both, and holds the answers against each other.
func step(t *testing.T, n *noise, h *texts, m *model, call int) {
	t.Helper()
	k, item := n.below(40), n.below(m.pushed+2)
	if is, ok := m.at(n.below(len(m.things) + 1)); ok {
		item = is.item
	}
	switch call {
	case 0:
		if item, want := h.Push(k, value(m.pushed+1)), m.push(k); item != want {
			t.Fatalf("Push: %d, want %d", item, want)
		}
	case 1:
		item, k, v, ok := h.PopMin()
		want, is := m.take(0)
		gives(t, "PopMin", item, k, v, ok, want, is)
	case 2:
		item, k, v, ok := h.PopMax()
		want, is := m.take(len(m.things) - 1)
		gives(t, "PopMax", item, k, v, ok, want, is)
	case 3:
		k, v, ok := h.Remove(item)
		want, is := m.take(m.find(item))
		gives(t, "Remove", want.item, k, v, ok, want, is)
	case 4:
		if e, want := h.Update(item, k), m.update(item, k); e != want {
			t.Fatalf("Update: %d, want %d", e, want)
		}
	}
}

func TestManyCalls(t *testing.T) {
	n := noise(57)
	for range 60 {
		h, m := of(), modelOf()
		bias := n.below(4)
		for i := range 400 {
			call := n.below(5)
			if i < 200 && n.below(4) < bias {
				call = 0
			}
			step(t, &n, h, m, call)
			holds(t, "many calls", h, m)
		}
		empties(t, "many calls", h, m, 2)
	}
}

func TestAllShortRowsOfCalls(t *testing.T) {
	n := noise(58)
	const calls = 6
	total := 1
	for range calls {
		total *= 5
	}
	for code := range total {
		h, m := of(20, 10, 30, 10), modelOf(20, 10, 30, 10)
		for range calls {
			step(t, &n, h, m, code%5)
			code /= 5
		}
		holds(t, "short row of calls", h, m)
		empties(t, "short row of calls", h, m, code%3)
	}
}
