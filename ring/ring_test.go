package ring_test

import (
	"math"
	"runtime"
	"slices"
	"testing"
	"weak"

	"millrace/ring"
)

// noise gives the same words in every run.
type noise uint64

func (n *noise) word() uint64 {
	*n += 0x9e3779b97f4a7c15
	z := uint64(*n)
	z = (z ^ z>>30) * 0xbf58476d1ce4e5b9
	z = (z ^ z>>27) * 0x94d049bb133111eb
	return z ^ z>>31
}

func (n *noise) below(bound int) int {
	return int(n.word() % uint64(bound))
}

// of is a ring of these.
func of(things ...int) *ring.Ring[int] {
	r := ring.New[int]()
	for _, v := range things {
		r.PushBack(v)
	}
	return r
}

// upTo is 0 to n - 1.
func upTo(n int) []int {
	var row []int
	for i := range n {
		row = append(row, i)
	}
	return row
}

// holds asks for the whole row by every call that tells of it.
func holds(t *testing.T, what string, r *ring.Ring[int], want ...int) {
	t.Helper()
	if r.Len() != len(want) || !slices.Equal(r.List(), want) {
		t.Fatalf("%s: Len %d, List %v, want %v", what, r.Len(), r.List(), want)
	}
	for i, w := range want {
		if v, ok := r.At(i); v != w || !ok {
			t.Fatalf("%s: At(%d) = %d %v, want %d", what, i, v, ok, w)
		}
	}
	next := 0
	for i, v := range r.All() {
		if i != next || v != want[i] {
			t.Fatalf("%s: All tells %d at %d, want %v", what, v, i, want)
		}
		next++
	}
	if next != len(want) {
		t.Fatalf("%s: All tells %d things, want %v", what, next, want)
	}
	none := len(want) == 0
	if v, ok := r.Front(); ok == none || !none && v != want[0] || none && v != 0 {
		t.Fatalf("%s: Front = %d %v, want %v", what, v, ok, want)
	}
	if v, ok := r.Back(); ok == none || !none && v != want[len(want)-1] || none && v != 0 {
		t.Fatalf("%s: Back = %d %v, want %v", what, v, ok, want)
	}
}

// gives asks for one thing, or for the zero value beside a false.
func gives(t *testing.T, what string, v int, ok bool, want int, is bool) {
	t.Helper()
	if v != want || ok != is {
		t.Fatalf("%s: %d %v, want %d %v", what, v, ok, want, is)
	}
}

// 4.1

func TestNewIsEmpty(t *testing.T) {
	r := ring.New[int]()
	if r == nil {
		t.Fatal("New gives none")
	}
	holds(t, "New", r)
}

func TestTwoHaveNothingInCommon(t *testing.T) {
	a, b := ring.New[int](), ring.New[int]()
	for i := range 100 {
		a.PushBack(i)
		b.PushFront(-i - 1)
		b.PushBack(1000 + i)
	}
	holds(t, "a", a, upTo(100)...)
	for range 100 {
		a.PopFront()
	}
	holds(t, "a, emptied", a)
	for i := range 100 {
		v, ok := b.PopBack()
		gives(t, "b", v, ok, 1099-i, true)
	}
}

// 4.2

func TestPushAndPopAtBothEnds(t *testing.T) {
	r := of(1, 2)
	r.PushFront(0)
	holds(t, "pushed", r, 0, 1, 2)
	v, ok := r.Front()
	gives(t, "Front", v, ok, 0, true)
	v, ok = r.Back()
	gives(t, "Back", v, ok, 2, true)
	holds(t, "looked at", r, 0, 1, 2)
	v, ok = r.PopBack()
	gives(t, "PopBack", v, ok, 2, true)
	holds(t, "popped", r, 0, 1)
	v, ok = r.PopFront()
	gives(t, "PopFront", v, ok, 0, true)
	holds(t, "popped", r, 1)
	v, ok = r.PopFront()
	gives(t, "PopFront", v, ok, 1, true)
	holds(t, "popped", r)
}

func TestNothingAtTheEndsOfAnEmptyOne(t *testing.T) {
	calls := map[string]func(*ring.Ring[int]) (int, bool){
		"PopFront": (*ring.Ring[int]).PopFront,
		"PopBack":  (*ring.Ring[int]).PopBack,
		"Front":    (*ring.Ring[int]).Front,
		"Back":     (*ring.Ring[int]).Back,
	}
	emptied := of(5, 6, 7)
	for range 3 {
		emptied.PopBack()
	}
	for name, call := range calls {
		for _, r := range []*ring.Ring[int]{ring.New[int](), emptied} {
			v, ok := call(r)
			gives(t, name, v, ok, 0, false)
			v, ok = call(r)
			gives(t, name+" again", v, ok, 0, false)
			holds(t, name, r)
			r.PushFront(8)
			r.PushBack(9)
			holds(t, name+", then pushed", r, 8, 9)
			r.PopFront()
			r.PopFront()
		}
	}
}

// 4.3

// rows are of every length up to 17, each beginning at every place of its memory.
func rows(each func(length, from int, r *ring.Ring[int])) {
	for length := range 18 {
		for from := range 33 {
			r := ring.New[int]()
			for range from {
				r.PushBack(-1)
				r.PushBack(-1)
				r.PopFront()
				r.PopFront()
			}
			for i := range length {
				r.PushBack(i)
			}
			each(length, from, r)
		}
	}
}

func TestPlaces(t *testing.T) {
	rows(func(length, _ int, r *ring.Ring[int]) {
		for i := range length {
			v, ok := r.At(i)
			gives(t, "At", v, ok, i, true)
			if !r.Set(i, 100+i) {
				t.Fatalf("Set(%d) of %d", i, length)
			}
			want := upTo(length)
			want[i] = 100 + i
			holds(t, "Set", r, want...)
			r.Set(i, i)
		}
	})
}

func TestTake(t *testing.T) {
	for i := range 17 {
		rows(func(length, _ int, r *ring.Ring[int]) {
			v, ok := r.Take(i)
			if i >= length {
				gives(t, "Take", v, ok, 0, false)
				holds(t, "Take of no place", r, upTo(length)...)
				return
			}
			gives(t, "Take", v, ok, i, true)
			holds(t, "Take", r, slices.Delete(upTo(length), i, i+1)...)
		})
	}
}

func TestNoSuchPlace(t *testing.T) {
	rows(func(length, _ int, r *ring.Ring[int]) {
		for _, i := range []int{-1, -2, -length, -length - 1, length, length + 1, 2*length + 4, 64, -64,
			math.MaxInt, math.MinInt, math.MinInt + length, 1 << 32, -1 << 32} {
			if 0 <= i && i < length {
				continue
			}
			v, ok := r.At(i)
			gives(t, "At", v, ok, 0, false)
			if r.Set(i, 7) {
				t.Fatalf("Set(%d) of %d", i, length)
			}
			v, ok = r.Take(i)
			gives(t, "Take", v, ok, 0, false)
			holds(t, "refused", r, upTo(length)...)
		}
	})
}

// 4.4

// turned is what one turn after the other makes of the row.
func turned(row []int, n int) []int {
	row = slices.Clone(row)
	for ; len(row) > 0 && n > 0; n-- {
		row = append(row[1:], row[0])
	}
	for ; len(row) > 0 && n < 0; n++ {
		last := len(row) - 1
		row = append([]int{row[last]}, row[:last]...)
	}
	return row
}

func TestTurn(t *testing.T) {
	for n := -40; n <= 40; n++ {
		rows(func(length, from int, r *ring.Ring[int]) {
			if from%5 != 0 {
				return
			}
			r.Turn(n)
			holds(t, "Turn", r, turned(upTo(length), n)...)
		})
	}
}

func TestTurnByVeryMuch(t *testing.T) {
	for _, n := range []int{math.MaxInt, math.MaxInt - 1, math.MinInt, math.MinInt + 1, 1 << 62, 1<<62 + 1, -1 << 62, -1<<62 - 1} {
		rows(func(length, from int, r *ring.Ring[int]) {
			r.Turn(n)
			if length > 0 {
				holds(t, "Turn", r, turned(upTo(length), n%length)...)
			} else {
				holds(t, "Turn of an empty one", r)
			}
		})
	}
}

// 4.5

func TestAllGivesWhatWasHeldAtTheBeginning(t *testing.T) {
	changes := map[string]func(*ring.Ring[int]){
		"PopFront":  func(r *ring.Ring[int]) { r.PopFront() },
		"PopBack":   func(r *ring.Ring[int]) { r.PopBack() },
		"PushBack":  func(r *ring.Ring[int]) { r.PushBack(50) },
		"PushFront": func(r *ring.Ring[int]) { r.PushFront(51) },
		"Set":       func(r *ring.Ring[int]) { r.Set(r.Len()-1, 52) },
		"Take":      func(r *ring.Ring[int]) { r.Take(r.Len() / 2) },
		"Turn":      func(r *ring.Ring[int]) { r.Turn(3) },
		"all out": func(r *ring.Ring[int]) {
			for r.Len() > 0 {
				r.PopFront()
			}
		},
	}
	for name, change := range changes {
		rows(func(length, _ int, r *ring.Ring[int]) {
			var told []int
			for i, v := range r.All() {
				if i != v {
					t.Fatalf("%s: %d at %d", name, v, i)
				}
				told = append(told, v)
				change(r)
			}
			if !slices.Equal(told, upTo(length)) {
				t.Fatalf("%s: %v, want %d", name, told, length)
			}
		})
	}
}

func TestAllMayBeRangedOverAgain(t *testing.T) {
	r := of(1, 2, 3)
	all := r.All()
	r.PushBack(4)
	var told []int
	for _, v := range all {
		told = append(told, v)
		r.PopBack()
		for _, w := range all {
			told = append(told, 10*w)
		}
	}
	want := []int{1, 10, 20, 30, 2, 10, 20, 3, 10, 4}
	if !slices.Equal(told, want) {
		t.Fatalf("within its own loop: %v, want %v", told, want)
	}
	for range all {
		t.Fatal("of an empty one")
	}
	r.PushFront(9)
	for i, v := range all {
		gives(t, "later", v, i == 0, 9, true)
	}
}

func TestAllStopsWhereItsLoopDoes(t *testing.T) {
	r := of(1, 2, 3, 4)
	all := r.All()
	for range 2 {
		told := 0
		for i, v := range all {
			told += v
			if i == 1 {
				break
			}
		}
		if told != 3 {
			t.Fatalf("told %d", told)
		}
	}
	calls := 0
	all(func(int, int) bool {
		calls++
		return false
	})
	if calls != 1 {
		t.Fatalf("%d calls behind a false", calls-1)
	}
}

func TestAllOfALoopThatPanics(t *testing.T) {
	r := of(1, 2, 3)
	all := r.All()
	func() {
		defer func() { recover() }()
		for range all {
			panic("out")
		}
	}()
	holds(t, "behind a panic", r, 1, 2, 3)
	if told := len(slices.Collect(func(yield func(int) bool) {
		for _, v := range all {
			if !yield(v) {
				return
			}
		}
	})); told != 3 {
		t.Fatalf("ranged over again: %d", told)
	}
}

func TestListIsNewMemory(t *testing.T) {
	rows(func(length, _ int, r *ring.Ring[int]) {
		a, b := r.List(), r.List()
		a = a[:cap(a)]
		for i := range a {
			a[i] = -5
		}
		holds(t, "written into its list", r, upTo(length)...)
		if !slices.Equal(b, upTo(length)) {
			t.Fatalf("two lists share memory: %v", b)
		}
		if length > 0 {
			r.Set(0, -6)
			if b[0] != 0 {
				t.Fatal("a list is changed by Set")
			}
			r.Set(0, 0)
		}
		_ = append(b, -7)
		r.PushBack(length)
		holds(t, "appended to its list", r, upTo(length+1)...)
	})
}

// 4.6

func TestOrder(t *testing.T) {
	const many = 5000
	type ring0 = ring.Ring[int]
	ends := []struct {
		name   string
		push   func(*ring0, int)
		pop    func(*ring0) (int, bool)
		turned bool
	}{
		{"back to front", (*ring0).PushBack, (*ring0).PopFront, false},
		{"front to back", (*ring0).PushFront, (*ring0).PopBack, false},
		{"back to back", (*ring0).PushBack, (*ring0).PopBack, true},
		{"front to front", (*ring0).PushFront, (*ring0).PopFront, true},
	}
	for _, e := range ends {
		r := ring.New[int]()
		for i := range many {
			e.push(r, i)
		}
		for i := range many {
			want := i
			if e.turned {
				want = many - 1 - i
			}
			v, ok := e.pop(r)
			gives(t, e.name, v, ok, want, true)
		}
		holds(t, e.name, r)
	}
}

// model does by a plain list what is asked of the ring.
type model []int

func (m *model) take(i int) (int, bool) {
	if i < 0 || i >= len(*m) {
		return 0, false
	}
	v := (*m)[i]
	*m = slices.Delete(*m, i, i+1)
	return v, true
}

// step does the same to both and holds the answers against each other.
func step(t *testing.T, n *noise, r *ring.Ring[int], m *model, call int, next int) {
	t.Helper()
	at := n.below(len(*m)+4) - 2
	switch call {
	case 0:
		r.PushBack(next)
		*m = append(*m, next)
	case 1:
		r.PushFront(next)
		*m = slices.Insert(*m, 0, next)
	case 2:
		v, ok := r.PopFront()
		want, is := m.take(0)
		gives(t, "PopFront", v, ok, want, is)
	case 3:
		v, ok := r.PopBack()
		want, is := m.take(len(*m) - 1)
		gives(t, "PopBack", v, ok, want, is)
	case 4:
		v, ok := r.Take(at)
		want, is := m.take(at)
		gives(t, "Take", v, ok, want, is)
	case 5:
		is := 0 <= at && at < len(*m)
		if ok := r.Set(at, next); ok != is {
			t.Fatalf("Set(%d) of %d: %v", at, len(*m), ok)
		}
		if is {
			(*m)[at] = next
		}
	case 6:
		by := n.below(3*len(*m)+7) - len(*m) - 3
		r.Turn(by)
		*m = turned(*m, by)
	}
}

func TestManyCalls(t *testing.T) {
	n := noise(4)
	for range 60 {
		r, m := ring.New[int](), model{}
		// The greater the bias, the longer the row gets ahead of the half.
		bias := n.below(3)
		for i := range 600 {
			call := n.below(7)
			if n.below(4) < bias {
				call = n.below(2)
				if i > 300 {
					call += 2
				}
			}
			step(t, &n, r, &m, call, i+1)
			holds(t, "many calls", r, m...)
		}
	}
}

func TestAllShortRowsOfCalls(t *testing.T) {
	n := noise(5)
	const calls = 5
	total := 1
	for range calls {
		total *= 7
	}
	for code := range total {
		r, m := of(1, 2, 3), model{1, 2, 3}
		for i := range calls {
			step(t, &n, r, &m, code%7, 10+i)
			code /= 7
		}
		holds(t, "short row of calls", r, m...)
	}
}

func TestOtherTypes(t *testing.T) {
	type pair struct {
		name string
		rest []int
	}
	r := ring.New[pair]()
	r.PushBack(pair{"a", []int{1}})
	r.PushBack(pair{"b", nil})
	if v, ok := r.PopFront(); v.name != "a" || len(v.rest) != 1 || !ok {
		t.Errorf("PopFront: %v %v", v, ok)
	}
	if v, ok := r.At(1); v.name != "" || v.rest != nil || ok {
		t.Errorf("At(1): %v %v", v, ok)
	}
	e := ring.New[error]()
	e.PushFront(nil)
	if v, ok := e.Back(); v != nil || !ok || e.Len() != 1 {
		t.Errorf("a nil thing: %v %v", v, ok)
	}
	s := ring.New[struct{}]()
	for range 100 {
		s.PushFront(struct{}{})
	}
	s.Turn(7)
	if _, ok := s.Take(50); !ok || s.Len() != 99 || len(s.List()) != 99 {
		t.Errorf("things of no size: %d", s.Len())
	}
	rr := ring.New[*ring.Ring[int]]()
	rr.PushBack(of(1, 2))
	if v, _ := rr.Front(); v.Len() != 2 {
		t.Error("a ring of rings")
	}
}

// 4.7

// thing is large enough to be collected by itself.
type thing struct {
	next *thing
	mass [64]byte
}

// watched are n things, each pushed, and seen by no other.
func watched(r *ring.Ring[*thing], n int) []weak.Pointer[thing] {
	var seen []weak.Pointer[thing]
	for range n {
		v := &thing{}
		seen = append(seen, weak.Make(v))
		r.PushBack(v)
	}
	return seen
}

func TestHoldsOnToNothing(t *testing.T) {
	calls := map[string]func(*ring.Ring[*thing]){
		"PopFront":   func(r *ring.Ring[*thing]) { r.PopFront() },
		"PopBack":    func(r *ring.Ring[*thing]) { r.PopBack() },
		"Take first": func(r *ring.Ring[*thing]) { r.Take(0) },
		"Take":       func(r *ring.Ring[*thing]) { r.Take(r.Len() / 3) },
		"Take far":   func(r *ring.Ring[*thing]) { r.Take(r.Len() * 2 / 3) },
		"Set":        func(r *ring.Ring[*thing]) { r.Set(0, nil); r.Turn(1) },
		"in a loop": func(r *ring.Ring[*thing]) {
			for range r.All() {
				r.PopFront()
				break
			}
		},
	}
	for name, call := range calls {
		for _, length := range []int{1, 3, 4, 5, 16, 17, 100} {
			r := ring.New[*thing]()
			seen := watched(r, length)
			r.Turn(length / 2)
			for range length {
				call(r)
			}
			runtime.GC()
			for i, w := range seen {
				if w.Value() != nil {
					t.Errorf("%s: of %d things it holds on to that at %d", name, length, i)
				}
			}
			runtime.KeepAlive(r)
		}
	}
}

func TestHoldsOnToTheRest(t *testing.T) {
	r := ring.New[*thing]()
	seen := watched(r, 9)
	r.Take(4)
	r.PopFront()
	r.PopBack()
	r.Turn(2)
	runtime.GC()
	for i, w := range seen {
		gone := i == 0 || i == 4 || i == 8
		if (w.Value() == nil) != gone {
			t.Errorf("the thing at %d: gone %v", i, w.Value() == nil)
		}
	}
	runtime.KeepAlive(r)
}

func TestNothingComesUpAgain(t *testing.T) {
	rows(func(length, _ int, r *ring.Ring[int]) {
		for r.Len() > 0 {
			r.Take(r.Len() / 2)
		}
		holds(t, "emptied", r)
		r.PushBack(700)
		r.PushFront(701)
		r.Set(0, 702)
		r.Turn(1)
		holds(t, "used again", r, 700, 702)
	})
}

func TestGivesItsMemoryBack(t *testing.T) {
	const many = 1 << 20
	inUse := func() uint64 {
		var m runtime.MemStats
		runtime.GC()
		runtime.ReadMemStats(&m)
		return m.HeapAlloc
	}
	r := ring.New[int]()
	before := inUse()
	for i := range many {
		r.PushBack(i)
	}
	for range many - 1 {
		r.PopFront()
	}
	if after := inUse(); after > before+many {
		t.Errorf("a ring of one thing keeps %d bytes", after-before)
	}
	holds(t, "the last one", r, many-1)
}

// 4.8

func TestOneStepAtTheEnds(t *testing.T) {
	const many = 1 << 20
	r := ring.New[int]()
	for i := range many {
		r.PushFront(i)
	}
	for i := range many {
		r.PushBack(i)
		r.PopFront()
		r.Turn(1)
		r.Turn(-1)
		r.Turn(r.Len() - 1)
		r.Turn(1 - r.Len())
		r.Take(1)
		r.PushFront(i)
		r.At(many / 2)
		r.Set(many/2, i)
	}
	if r.Len() != many {
		t.Fatalf("Len %d", r.Len())
	}
}

func TestNoMoveAtTheBorder(t *testing.T) {
	for _, length := range []int{4, 5, 8, 16, 17, 64, 65} {
		r := of(upTo(length)...)
		moves := testing.AllocsPerRun(1000, func() {
			r.PushBack(1)
			r.PopFront()
		})
		if moves > 0 {
			t.Errorf("of %d things each step takes new memory", length)
		}
	}
}
