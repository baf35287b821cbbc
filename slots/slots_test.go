package slots_test

import (
	"math"
	"runtime"
	"slices"
	"testing"
	"weak"

	"millrace/api"
	"millrace/slots"
)

const (
	most     = 65_536
	greatest = 1<<31 - 1
)

// noise gives the same words in every run.
type noise uint64

func (n *noise) word() uint64 {
	*n += 0x9e3779b97f4a7c15
	z := uint64(*n)
	z = (z ^ z>>30) * 0xbf58476d1ce4e5b9
	z = (z ^ z>>27) * 0x94d049bb133111eb
	return z ^ z>>31
}

func (n *noise) below(bound int) int {
	return int(n.word() % uint64(bound))
}

// entry is what All tells of a thing.
type entry struct {
	h api.Handle
	v int
}

// at is a handle.
func at(slot, generation int) api.Handle { return api.Handle{Slot: slot, Gen: generation} }

// of is n slots, which must be given.
func of(t *testing.T, n, last int) *slots.Slots[int] {
	t.Helper()
	s, e := slots.New[int](n, last)
	if s == nil || e != api.OK {
		t.Fatalf("New(%d, %d): %v", n, last, e)
	}
	return s
}

// puts asks for the handle of v, or for an error beside none.
func puts(t *testing.T, s *slots.Slots[int], v int, want api.Handle, is api.Errno) {
	t.Helper()
	if h, e := s.Put(v); h != want || e != is {
		t.Fatalf("Put(%d): %v %v, want %v %v", v, h, e, want, is)
	}
}

// gets asks for what lies there, or for an error beside 0.
func gets(t *testing.T, s *slots.Slots[int], h api.Handle, want int, is api.Errno) {
	t.Helper()
	if v, e := s.Get(h); v != want || e != is {
		t.Fatalf("Get(%v): %d %v, want %d %v", h, v, e, want, is)
	}
}

// sets asks for what Set answers.
func sets(t *testing.T, s *slots.Slots[int], h api.Handle, v int, is api.Errno) {
	t.Helper()
	if e := s.Set(h, v); e != is {
		t.Fatalf("Set(%v, %d): %v, want %v", h, v, e, is)
	}
}

// drops asks for what lay there, or for an error beside 0.
func drops(t *testing.T, s *slots.Slots[int], h api.Handle, want int, is api.Errno) {
	t.Helper()
	if v, e := s.Drop(h); v != want || e != is {
		t.Fatalf("Drop(%v): %d %v, want %d %v", h, v, e, want, is)
	}
}

// list is what one range of All tells.
func list(s *slots.Slots[int]) []entry {
	var all []entry
	for h, v := range s.All() {
		all = append(all, entry{h, v})
	}
	return all
}

// holds asks for all by every call that tells of it.
func holds(t *testing.T, what string, s *slots.Slots[int], want ...entry) {
	t.Helper()
	if got := list(s); s.Len() != len(want) || !slices.Equal(got, want) {
		t.Fatalf("%s: Len %d, All %v, want %v", what, s.Len(), got, want)
	}
	for _, w := range want {
		gets(t, s, w.h, w.v, api.OK)
	}
}

// lying is a slot of the model: what lies there, whether something does, and the last generation given.
type lying struct {
	v          int
	full       bool
	generation int
}

// model is slots as the document tells them: a row that is looked through from its beginning.
type model struct {
	row  []lying
	last int
}

func (m *model) put(v int) (api.Handle, api.Errno) {
	for i := range m.row {
		x := &m.row[i]
		if !x.full && x.generation < m.last {
			*x = lying{v, true, x.generation + 1}
			return at(i, x.generation), api.OK
		}
	}
	return api.Handle{}, api.ErrFull
}

func (m *model) find(h api.Handle) *lying {
	if h.Slot < 0 || h.Slot >= len(m.row) {
		return nil
	}
	x := &m.row[h.Slot]
	if !x.full || x.generation != h.Gen {
		return nil
	}
	return x
}

func (m *model) get(h api.Handle) (int, api.Errno) {
	x := m.find(h)
	if x == nil {
		return 0, api.ErrHandle
	}
	return x.v, api.OK
}

func (m *model) set(h api.Handle, v int) api.Errno {
	x := m.find(h)
	if x == nil {
		return api.ErrHandle
	}
	x.v = v
	return api.OK
}

func (m *model) drop(h api.Handle) (int, api.Errno) {
	x := m.find(h)
	if x == nil {
		return 0, api.ErrHandle
	}
	v := x.v
	*x = lying{generation: x.generation}
	return v, api.OK
}

func (m *model) list() []entry {
	var all []entry
	for i, x := range m.row {
		if x.full {
			all = append(all, entry{at(i, x.generation), x.v})
		}
	}
	return all
}

// The examples

func TestExamples(t *testing.T) {
	s, e := slots.New[string](2, 2)
	if e != api.OK {
		t.Fatal(e)
	}
	put := func(v string, want api.Handle, is api.Errno) {
		t.Helper()
		if h, e := s.Put(v); h != want || e != is {
			t.Errorf("Put(%q): %v %v, want %v %v", v, h, e, want, is)
		}
	}
	gives := func(what string, v string, e api.Errno, want string, is api.Errno) {
		t.Helper()
		if v != want || e != is {
			t.Errorf("%s: %q %v, want %q %v", what, v, e, want, is)
		}
	}
	get := func(h api.Handle, want string, is api.Errno) {
		t.Helper()
		v, e := s.Get(h)
		gives("Get", v, e, want, is)
	}
	drop := func(h api.Handle, want string, is api.Errno) {
		t.Helper()
		v, e := s.Drop(h)
		gives("Drop", v, e, want, is)
	}
	put("a", at(0, 1), api.OK)
	put("b", at(1, 1), api.OK)
	put("c", at(0, 0), api.ErrFull)
	drop(at(0, 1), "a", api.OK)
	get(at(0, 1), "", api.ErrHandle)
	put("d", at(0, 2), api.OK)
	drop(at(0, 2), "d", api.OK)
	put("e", at(0, 0), api.ErrFull)
	drop(at(1, 1), "b", api.OK)
	put("f", at(1, 2), api.OK)
	get(at(1, 2), "f", api.OK)
	get(at(1, 1), "", api.ErrHandle)
	get(at(2, 1), "", api.ErrHandle)
	get(at(-1, 0), "", api.ErrHandle)
}

// 6.1

func TestNewWithinItsBounds(t *testing.T) {
	for _, n := range []int{1, 2, 255, most - 1, most} {
		for _, last := range []int{1, 2, greatest - 1, greatest} {
			s := of(t, n, last)
			holds(t, "New", s)
			puts(t, s, 7, at(0, 1), api.OK)
		}
	}
}

func TestNewBeyondItsBounds(t *testing.T) {
	wrong := [][2]int{
		{0, 1}, {-1, 1}, {most + 1, 1}, {math.MinInt, 1}, {math.MaxInt, 1}, {1 << 32, 1},
		{1, 0}, {1, -1}, {1, greatest + 1}, {1, math.MinInt}, {1, math.MaxInt}, {1, 1<<32 + 1},
		{0, 0}, {most, greatest + 1}, {most + 1, greatest},
	}
	for _, w := range wrong {
		if s, e := slots.New[int](w[0], w[1]); s != nil || e != api.ErrArg {
			t.Errorf("New(%d, %d): %v %v, want nil and ErrArg", w[0], w[1], s, e)
		}
	}
}

func TestTwoHaveNothingInCommon(t *testing.T) {
	a, b := of(t, 3, 2), of(t, 3, 2)
	puts(t, a, 1, at(0, 1), api.OK)
	puts(t, a, 2, at(1, 1), api.OK)
	holds(t, "b", b)
	gets(t, b, at(0, 1), 0, api.ErrHandle)
	puts(t, b, 3, at(0, 1), api.OK)
	sets(t, b, at(0, 1), 4, api.OK)
	drops(t, b, at(0, 1), 4, api.OK)
	puts(t, b, 5, at(0, 2), api.OK)
	holds(t, "a", a, entry{at(0, 1), 1}, entry{at(1, 1), 2})
	drops(t, a, at(0, 1), 1, api.OK)
	drops(t, a, at(1, 1), 2, api.OK)
	holds(t, "b", b, entry{at(0, 2), 5})
}

// 6.2

func TestPutTakesTheLeastSlot(t *testing.T) {
	for _, n := range []int{1, 2, 63, 64, 65, 128, 4095, 4096, 4097, most - 1, most} {
		s := of(t, n, 3)
		for i := range n {
			puts(t, s, i, at(i, 1), api.OK)
		}
		puts(t, s, n, at(0, 0), api.ErrFull)
		// The greatest ones are emptied first, and the least is given first.
		gone := []int{n - 1, n / 2, n / 3, 0}
		slices.Sort(gone)
		gone = slices.Compact(gone)
		for _, i := range slices.Backward(gone) {
			drops(t, s, at(i, 1), i, api.OK)
		}
		for _, i := range gone {
			puts(t, s, -i, at(i, 2), api.OK)
		}
		puts(t, s, n, at(0, 0), api.ErrFull)
		if s.Len() != n {
			t.Fatalf("Len %d of %d", s.Len(), n)
		}
	}
}

func TestPutPrefersAnEmptiedSlotToANewOne(t *testing.T) {
	s := of(t, 200, greatest)
	for i := range 100 {
		puts(t, s, i, at(i, 1), api.OK)
	}
	drops(t, s, at(70, 1), 70, api.OK)
	drops(t, s, at(5, 1), 5, api.OK)
	puts(t, s, 1, at(5, 2), api.OK)
	puts(t, s, 2, at(70, 2), api.OK)
	puts(t, s, 3, at(100, 1), api.OK)
}

func TestASlotGrowsOld(t *testing.T) {
	for _, last := range []int{1, 2, 3, 255, 256, 257, 65_535, 65_536, 65_537} {
		s := of(t, 2, last)
		for generation := range last {
			puts(t, s, generation, at(0, generation+1), api.OK)
			drops(t, s, at(0, generation+1), generation, api.OK)
		}
		// The first slot has had its last generation: it stays empty.
		puts(t, s, 1, at(1, 1), api.OK)
		puts(t, s, 2, at(0, 0), api.ErrFull)
		holds(t, "old", s, entry{at(1, 1), 1})
	}
}

func TestAllSlotsGrowOld(t *testing.T) {
	const n, last = 70, 3
	s := of(t, n, last)
	for slot := range n {
		for generation := 1; generation <= last; generation++ {
			puts(t, s, slot, at(slot, generation), api.OK)
			drops(t, s, at(slot, generation), slot, api.OK)
		}
	}
	for range 3 {
		puts(t, s, 1, at(0, 0), api.ErrFull)
	}
	holds(t, "all old", s)
}

func TestAFullOneIsLeftAsItWas(t *testing.T) {
	s := of(t, 2, 2)
	puts(t, s, 1, at(0, 1), api.OK)
	puts(t, s, 2, at(1, 1), api.OK)
	for range 5 {
		puts(t, s, 3, at(0, 0), api.ErrFull)
	}
	holds(t, "full", s, entry{at(0, 1), 1}, entry{at(1, 1), 2})
	drops(t, s, at(1, 1), 2, api.OK)
	puts(t, s, 4, at(1, 2), api.OK)
}

// 6.3

func TestGetSetDrop(t *testing.T) {
	s := of(t, 3, 5)
	puts(t, s, 1, at(0, 1), api.OK)
	puts(t, s, 2, at(1, 1), api.OK)
	gets(t, s, at(1, 1), 2, api.OK)
	gets(t, s, at(1, 1), 2, api.OK)
	sets(t, s, at(1, 1), 20, api.OK)
	sets(t, s, at(1, 1), 21, api.OK)
	holds(t, "set", s, entry{at(0, 1), 1}, entry{at(1, 1), 21})
	drops(t, s, at(0, 1), 1, api.OK)
	drops(t, s, at(0, 1), 0, api.ErrHandle)
	holds(t, "dropped", s, entry{at(1, 1), 21})
	puts(t, s, 3, at(0, 2), api.OK)
	holds(t, "put again", s, entry{at(0, 2), 3}, entry{at(1, 1), 21})
}

func TestSetCountsNoGeneration(t *testing.T) {
	s := of(t, 1, 2)
	puts(t, s, 1, at(0, 1), api.OK)
	for i := range 10 {
		sets(t, s, at(0, 1), i, api.OK)
	}
	drops(t, s, at(0, 1), 9, api.OK)
	puts(t, s, 2, at(0, 2), api.OK)
}

func TestZeroThingsLieThereToo(t *testing.T) {
	s := of(t, 2, 2)
	puts(t, s, 0, at(0, 1), api.OK)
	sets(t, s, at(0, 1), 0, api.OK)
	holds(t, "a zero", s, entry{at(0, 1), 0})
	drops(t, s, at(0, 1), 0, api.OK)
	drops(t, s, at(0, 1), 0, api.ErrHandle)
}

func TestHandlesOfNothing(t *testing.T) {
	s := of(t, 4, 9)
	for i := range 3 {
		puts(t, s, 10+i, at(i, 1), api.OK)
	}
	drops(t, s, at(1, 1), 11, api.OK)
	drops(t, s, at(0, 1), 10, api.OK)
	puts(t, s, 13, at(0, 2), api.OK)
	wrong := []api.Handle{
		// of slots that are empty, by every generation near
		at(1, 0), at(1, 1), at(1, 2), at(3, 0), at(3, 1),
		// of generations that are gone, or did not come yet
		at(0, 0), at(0, 1), at(0, 3), at(0, -2), at(0, 2+1<<32), at(0, 2-1<<32), at(2, 2), at(2, 1<<31+1),
		// of no slots
		at(-1, 0), at(-1, 1), at(-2, 1), at(4, 0), at(4, 1), at(5, 1), at(most, 1), at(1<<32, 2), at(2-4, 1), at(2+4, 1), at(2+8, 1),
		at(math.MinInt, 1), at(math.MaxInt, 1), at(math.MinInt, math.MinInt), at(math.MaxInt, math.MaxInt), at(0, math.MinInt), at(0, math.MaxInt),
	}
	for _, h := range wrong {
		gets(t, s, h, 0, api.ErrHandle)
		sets(t, s, h, 99, api.ErrHandle)
		drops(t, s, h, 0, api.ErrHandle)
		holds(t, "asked by handles of nothing", s, entry{at(0, 2), 13}, entry{at(2, 1), 12})
	}
	puts(t, s, 14, at(1, 2), api.OK)
	puts(t, s, 15, at(3, 1), api.OK)
	puts(t, s, 16, at(0, 0), api.ErrFull)
}

func TestAHandleOfAnOldSlotIsOfNothing(t *testing.T) {
	s := of(t, 1, 1)
	puts(t, s, 5, at(0, 1), api.OK)
	drops(t, s, at(0, 1), 5, api.OK)
	for generation := -1; generation < 4; generation++ {
		gets(t, s, at(0, generation), 0, api.ErrHandle)
		sets(t, s, at(0, generation), 6, api.ErrHandle)
		drops(t, s, at(0, generation), 0, api.ErrHandle)
	}
	puts(t, s, 7, at(0, 0), api.ErrFull)
	holds(t, "old", s)
}

// 6.4

func TestAllGoesByRisingSlot(t *testing.T) {
	s := of(t, 5, 9)
	for i := range 5 {
		puts(t, s, 50-i, at(i, 1), api.OK)
	}
	drops(t, s, at(3, 1), 47, api.OK)
	drops(t, s, at(0, 1), 50, api.OK)
	puts(t, s, 60, at(0, 2), api.OK)
	sets(t, s, at(1, 1), 70, api.OK)
	holds(t, "five", s, entry{at(0, 2), 60}, entry{at(1, 1), 70}, entry{at(2, 1), 48}, entry{at(4, 1), 46})
}

func TestAllOfNothing(t *testing.T) {
	s := of(t, 5, 1)
	holds(t, "new", s)
	puts(t, s, 1, at(0, 1), api.OK)
	drops(t, s, at(0, 1), 1, api.OK)
	holds(t, "emptied", s)
}

// three is three things in four slots.
func three(t *testing.T) (*slots.Slots[int], []entry) {
	t.Helper()
	s := of(t, 4, 9)
	want := []entry{{at(0, 1), 10}, {at(1, 1), 11}, {at(2, 1), 12}}
	for _, w := range want {
		puts(t, s, w.v, w.h, api.OK)
	}
	return s, want
}

func TestARangeTellsWhatLayThereWhenItBegan(t *testing.T) {
	bodies := map[string]func(s *slots.Slots[int]){
		"Drop": func(s *slots.Slots[int]) {
			for i := range 3 {
				s.Drop(at(i, 1))
			}
		},
		"Set": func(s *slots.Slots[int]) {
			for i := range 3 {
				s.Set(at(i, 1), 99)
			}
		},
		"Put": func(s *slots.Slots[int]) { s.Put(99) },
		"Drop and Put": func(s *slots.Slots[int]) {
			for i := range 3 {
				s.Drop(at(i, 1))
			}
			for range 4 {
				s.Put(99)
			}
		},
	}
	for name, body := range bodies {
		s, want := three(t)
		all := s.All()
		var got []entry
		for h, v := range all {
			got = append(got, entry{h, v})
			body(s)
		}
		if !slices.Equal(got, want) {
			t.Errorf("%s within a range: %v, want %v", name, got, want)
		}
		// A later range of the same answer begins anew.
		var later []entry
		for h, v := range all {
			later = append(later, entry{h, v})
		}
		if now := list(s); !slices.Equal(later, now) || slices.Equal(later, want) {
			t.Errorf("%s, a later range: %v, want %v", name, later, now)
		}
	}
}

func TestARangeBeginsWhenItIsRangedOver(t *testing.T) {
	s, want := three(t)
	all := s.All()
	drops(t, s, at(1, 1), 11, api.OK)
	puts(t, s, 13, at(1, 2), api.OK)
	want[1] = entry{at(1, 2), 13}
	var got []entry
	for h, v := range all {
		got = append(got, entry{h, v})
	}
	if !slices.Equal(got, want) {
		t.Errorf("All, changed ahead of its range: %v, want %v", got, want)
	}
}

func TestRangesWithinARange(t *testing.T) {
	s, want := three(t)
	all := s.All()
	var outer []entry
	for h, v := range all {
		outer = append(outer, entry{h, v})
		var inner []entry
		for h, v := range all {
			inner = append(inner, entry{h, v})
		}
		if !slices.Equal(inner, want[len(outer)-1:]) {
			t.Errorf("within, at %v: %v, want %v", h, inner, want[len(outer)-1:])
		}
		s.Drop(h)
	}
	if !slices.Equal(outer, want) {
		t.Errorf("without: %v, want %v", outer, want)
	}
	holds(t, "all dropped", s)
}

func TestARangeMayBeLeft(t *testing.T) {
	s, want := three(t)
	all := s.All()
	for leave := 1; leave <= len(want); leave++ {
		var got []entry
		for h, v := range all {
			got = append(got, entry{h, v})
			if len(got) == leave {
				break
			}
		}
		if !slices.Equal(got, want[:leave]) {
			t.Errorf("left behind %d: %v", leave, got)
		}
	}
	holds(t, "left", s, want...)
}

// 6.5, and all ahead of it in long runs

// run puts, gets, sets and drops n slots steps times, and holds each answer against the model's.
func run(t *testing.T, n, last, steps int, luck *noise) {
	t.Helper()
	s, m := of(t, n, last), &model{row: make([]lying, n), last: last}
	var given []api.Handle
	seen := make(map[api.Handle]int)
	pick := func() api.Handle {
		if len(given) == 0 || luck.below(8) == 0 {
			return at(luck.below(n+2)-1, luck.below(5)-1)
		}
		return given[luck.below(len(given))]
	}
	for i := range steps {
		switch luck.below(6) {
		case 0, 1:
			want, is := m.put(i)
			puts(t, s, i, want, is)
			if is == api.OK {
				given = append(given, want)
				seen[want]++
			}
		case 2:
			h := pick()
			want, is := m.get(h)
			gets(t, s, h, want, is)
		case 3:
			h := pick()
			sets(t, s, h, -i, m.set(h, -i))
		default:
			h := pick()
			want, is := m.drop(h)
			drops(t, s, h, want, is)
		}
		if i%16 == 0 {
			holds(t, "a run", s, m.list()...)
		}
	}
	if len(seen) != len(given) {
		t.Fatalf("%d Puts gave %d handles", len(given), len(seen))
	}
	for _, h := range given {
		want, is := m.get(h)
		gets(t, s, h, want, is)
	}
}

func TestRuns(t *testing.T) {
	luck := noise(6)
	for _, n := range []int{1, 2, 3, 7, 63, 64, 65, 300} {
		for _, last := range []int{1, 2, 3, 10, greatest} {
			run(t, n, last, 4000, &luck)
		}
	}
}

func TestManySlotsInNoOrder(t *testing.T) {
	luck := noise(65)
	s := of(t, most, greatest)
	for i := range most {
		puts(t, s, i, at(i, 1), api.OK)
	}
	generations := make([]int, most)
	for range 20 {
		var gone []int
		for range 1 + luck.below(3000) {
			i := luck.below(most)
			if _, e := s.Get(at(i, generations[i]+1)); e != api.OK {
				continue
			}
			generations[i]++
			drops(t, s, at(i, generations[i]), i, api.OK)
			gone = append(gone, i)
		}
		slices.Sort(gone)
		for _, i := range gone {
			gets(t, s, at(i, generations[i]), 0, api.ErrHandle)
			puts(t, s, i, at(i, generations[i]+1), api.OK)
		}
		puts(t, s, 0, at(0, 0), api.ErrFull)
	}
	for i := range most {
		gets(t, s, at(i, generations[i]+1), i, api.OK)
	}
}

func TestAHandleIsGoodFromItsPutToItsDrop(t *testing.T) {
	const n, last = 3, 50
	s := of(t, n, last)
	var dead []api.Handle
	for round := range last {
		for i := range n {
			puts(t, s, 100*round+i, at(i, round+1), api.OK)
		}
		for _, h := range dead {
			gets(t, s, h, 0, api.ErrHandle)
			sets(t, s, h, 1, api.ErrHandle)
			drops(t, s, h, 0, api.ErrHandle)
		}
		for i := range n {
			gets(t, s, at(i, round+1), 100*round+i, api.OK)
			drops(t, s, at(i, round+1), 100*round+i, api.OK)
			dead = append(dead, at(i, round+1))
		}
	}
	puts(t, s, 0, at(0, 0), api.ErrFull)
	for _, h := range dead {
		gets(t, s, h, 0, api.ErrHandle)
	}
}

// 6.6

func TestNoCallPanics(t *testing.T) {
	luck := noise(66)
	wild := func() int {
		switch luck.below(4) {
		case 0:
			return luck.below(6) - 2
		case 1:
			return 1<<luck.below(63) - luck.below(3)
		case 2:
			return -1<<luck.below(63) + luck.below(3)
		}
		return int(luck.word())
	}
	for range 20_000 {
		s, e := slots.New[int](wild(), wild())
		if (s == nil) != (e == api.ErrArg) {
			t.Fatalf("New: %v %v", s, e)
		}
		if s == nil {
			continue
		}
		for i := range 10 {
			s.Put(i)
			s.Get(at(wild(), wild()))
			s.Set(at(wild(), wild()), i)
			s.Drop(at(wild(), wild()))
			s.Len()
			for range s.All() {
				s.Drop(at(wild(), wild()))
			}
		}
	}
}

func TestThingsOfAnyType(t *testing.T) {
	none, e := slots.New[struct{}](2, 1)
	if e != api.OK {
		t.Fatal(e)
	}
	h, _ := none.Put(struct{}{})
	if _, e := none.Get(h); e != api.OK || none.Len() != 1 {
		t.Errorf("a thing of no size: %v, %d", e, none.Len())
	}
	if _, e := none.Drop(h); e != api.OK || none.Len() != 0 {
		t.Errorf("a thing of no size, dropped: %v, %d", e, none.Len())
	}
	any, e := slots.New[error](2, 1)
	if e != api.OK {
		t.Fatal(e)
	}
	h, _ = any.Put(nil)
	if v, e := any.Get(h); v != nil || e != api.OK || any.Len() != 1 {
		t.Errorf("a nil thing: %v %v", v, e)
	}
	long, e := slots.New[[100]int](2, 1)
	if e != api.OK {
		t.Fatal(e)
	}
	thing := [100]int{99: 7}
	h, _ = long.Put(thing)
	thing[99] = 8
	for _, v := range long.All() {
		v[99] = 9
	}
	if v, e := long.Get(h); v[99] != 7 || e != api.OK {
		t.Errorf("an array changed from without: %d %v", v[99], e)
	}
}

// kept tells whether a thing stays in memory.
func kept(p weak.Pointer[[64]int]) bool {
	runtime.GC()
	return p.Value() != nil
}

func TestWhatIsGoneIsLetGo(t *testing.T) {
	s, e := slots.New[*[64]int](3, 2)
	if e != api.OK {
		t.Fatal(e)
	}
	dropped, replaced, held := new([64]int), new([64]int), new([64]int)
	a, b, c := weak.Make(dropped), weak.Make(replaced), weak.Make(held)
	h, _ := s.Put(dropped)
	k, _ := s.Put(replaced)
	s.Put(held)
	for range s.All() {
	}
	dropped, replaced, held = nil, nil, nil
	s.Drop(h)
	s.Set(k, nil)
	if kept(a) {
		t.Error("what was dropped is kept")
	}
	if kept(b) {
		t.Error("what was replaced is kept")
	}
	if !kept(c) {
		t.Error("what lies there is not kept")
	}
	runtime.KeepAlive(s)
}

func TestEmptySlotsKeepLittle(t *testing.T) {
	const n = 10_000
	s, e := slots.New[[128]int](n, greatest)
	if e != api.OK {
		t.Fatal(e)
	}
	for i := range n {
		s.Put([128]int{i})
	}
	for i := range n {
		s.Drop(at(i, 1))
	}
	var before, behind runtime.MemStats
	runtime.GC()
	runtime.ReadMemStats(&before)
	runtime.KeepAlive(s)
	s = nil
	runtime.GC()
	runtime.ReadMemStats(&behind)
	if bytes := int(before.HeapAlloc) - int(behind.HeapAlloc); bytes > 100*n {
		t.Errorf("%d empty slots keep %d bytes", n, bytes)
	}
}
