package seen

import (
	"maps"
	"math"
	"math/rand"
	"slices"
	"sync"
	"testing"

	"skiff/api"
)

// top is the greatest number that may come.
const top = 4611686018427387903

// beyond: numbers that are too great.
var beyond = []uint64{top + 1, top + 2, top + 33, 1<<62 + 1<<32, 1<<63 - 1, 1 << 63, 1<<63 + 5, 3 << 62, math.MaxUint64 - 1, math.MaxUint64}

// model is a plain set of the numbers that came, one by one, and the floor.
type model struct {
	came  map[uint64]bool
	floor uint64
}

func (m *model) has(n uint64) bool { return n < m.floor || m.came[n] }

func (m *model) put(n uint64) bool {
	if n > top || m.has(n) {
		return false
	}
	m.came[n] = true
	if list := m.spans(); len(list) > 32 {
		m.floor = list[31].Lo
		maps.DeleteFunc(m.came, func(n uint64, _ bool) bool { return n < m.floor })
	}
	return true
}

func (m *model) spans() []api.Span {
	var list []api.Span
	for _, n := range slices.Backward(slices.Sorted(maps.Keys(m.came))) {
		if last := len(list) - 1; last >= 0 && list[last].Lo == n+1 {
			list[last].Lo = n
		} else {
			list = append(list, api.Span{Lo: n, Hi: n})
		}
	}
	return list
}

func (m *model) next() uint64 {
	if len(m.came) == 0 {
		return 0
	}
	return slices.Max(slices.Collect(maps.Keys(m.came))) + 1
}

// both is a Seen, and the model that it is held against.
type both struct {
	t *testing.T
	s *Seen
	m *model
}

// open: both, of which nothing came.
func open(t *testing.T) both {
	return both{t, new(Seen), &model{came: map[uint64]bool{}}}
}

// put: numbers come to both.
func (b both) put(list ...uint64) {
	b.t.Helper()
	for _, n := range list {
		if got, want := b.s.Put(n), b.m.put(n); got != want {
			b.t.Fatalf("Put(%d): %v, not %v; now %d, floor %d", n, got, want, b.m.spans(), b.m.floor)
		}
	}
}

// has: whether both have a number.
func (b both) has(n uint64) {
	b.t.Helper()
	if got, want := b.s.Has(n), b.m.has(n); got != want {
		b.t.Fatalf("Has(%d) of %d, floor %d: %v, not %v", n, b.m.spans(), b.m.floor, got, want)
	}
}

// same: whether all that both answer is the same, at all numbers where an answer may change.
func (b both) same() {
	b.t.Helper()
	list := b.m.spans()
	if got := b.s.Spans(); !slices.Equal(got, list) {
		b.t.Fatalf("Spans: %d, not %d", got, list)
	}
	if got, want := b.s.Next(), b.m.next(); got != want {
		b.t.Fatalf("Next of %d: %d, not %d", list, got, want)
	}
	for _, one := range append(list, api.Span{Lo: b.m.floor, Hi: b.m.floor}, api.Span{Lo: 0, Hi: top}) {
		for _, n := range []uint64{one.Lo - 2, one.Lo - 1, one.Lo, one.Lo + 1, (one.Lo + one.Hi) / 2, one.Hi - 1, one.Hi, one.Hi + 1, one.Hi + 2} {
			b.has(n)
		}
	}
	for _, n := range beyond {
		b.has(n)
	}
}

// each: numbers come, and behind each all is looked at.
func (b both) each(list ...uint64) {
	b.t.Helper()
	for _, n := range list {
		b.put(n)
		b.same()
	}
}

// apart: so many numbers from one on, with so many missing between two, rising.
func apart(from, missing uint64, count int) []uint64 {
	list := make([]uint64, count)
	for i := range list {
		list[i] = from + uint64(i)*(missing+1)
	}
	return list
}

// turned: a list from its end on.
func turned(list []uint64) []uint64 {
	out := slices.Clone(list)
	slices.Reverse(out)
	return out
}

// mixed: a list in an order by chance.
func mixed(r *rand.Rand, list []uint64) []uint64 {
	out := slices.Clone(list)
	r.Shuffle(len(out), func(i, j int) { out[i], out[j] = out[j], out[i] })
	return out
}

// orders: a list, and behind it others in all orders.
func orders(ahead, left []uint64, yield func([]uint64)) {
	if len(left) == 0 {
		yield(ahead)
	}
	for i, n := range left {
		orders(append(slices.Clone(ahead), n), slices.Delete(slices.Clone(left), i, i+1), yield)
	}
}

// spansAre: whether the spans are just these.
func spansAre(t *testing.T, s *Seen, want ...api.Span) {
	t.Helper()
	if got := s.Spans(); !slices.Equal(got, want) {
		t.Fatalf("Spans: %d, not %d", got, want)
	}
}

// putsAre: whether Put of each answers the same.
func putsAre(t *testing.T, s *Seen, want bool, list ...uint64) {
	t.Helper()
	for _, n := range list {
		if s.Put(n) != want {
			t.Fatalf("Put(%d): not %v; %d", n, want, s.Spans())
		}
	}
}

// hasAre: whether Has of each answers the same.
func hasAre(t *testing.T, s *Seen, want bool, list ...uint64) {
	t.Helper()
	for _, n := range list {
		if s.Has(n) != want {
			t.Fatalf("Has(%d): not %v; %d", n, want, s.Spans())
		}
	}
}

// nextIs: whether Next is that.
func nextIs(t *testing.T, s *Seen, want uint64) {
	t.Helper()
	if got := s.Next(); got != want {
		t.Fatalf("Next: %d, not %d", got, want)
	}
}

func TestExamples(t *testing.T) { // P17.1
	var s Seen
	putsAre(t, &s, true, 3, 5, 4)
	spansAre(t, &s, api.Span{Lo: 3, Hi: 5})
	nextIs(t, &s, 6)
}

// TestUnmade: a Seen that wasn't made has none, and takes what comes.
func TestUnmade(t *testing.T) { // P17.1
	var s Seen
	for range 2 {
		spansAre(t, &s)
		nextIs(t, &s, 0)
		hasAre(t, &s, false, 0, 1, 2, 31, 32, 33, 1<<32, top-1, top)
		hasAre(t, &s, false, beyond...)
	}
	putsAre(t, &s, true, 0)
	spansAre(t, &s, api.Span{Lo: 0, Hi: 0})
	other := new(Seen)
	putsAre(t, other, true, top)
	spansAre(t, other, api.Span{Lo: top, Hi: top})
	spansAre(t, &s, api.Span{Lo: 0, Hi: 0})
}

// TestNil: a nil one has none, whatever comes.
func TestNil(t *testing.T) { // P17.1, R7
	var s *Seen
	for range 2 {
		for _, n := range append([]uint64{0, 1, 31, 32, 1 << 32, top - 1, top}, beyond...) {
			if s.Has(n) || s.Put(n) || s.Has(n) {
				t.Fatalf("a nil Seen takes or has %d", n)
			}
		}
		if list := s.Spans(); len(list) != 0 {
			t.Fatalf("a nil Seen has %d", list)
		}
		nextIs(t, s, 0)
	}
}

// TestLimits: 0, 2^62 - 1, and what is about them.
func TestLimits(t *testing.T) { // P17.1
	if top != api.MaxVar || api.MaxSpans != 32 {
		t.Fatal("the limits")
	}
	var s Seen
	putsAre(t, &s, true, 0)
	putsAre(t, &s, false, 0)
	hasAre(t, &s, true, 0)
	hasAre(t, &s, false, 1, top, top+1, math.MaxUint64)
	nextIs(t, &s, 1)
	putsAre(t, &s, true, top)
	putsAre(t, &s, false, top, 0)
	hasAre(t, &s, true, 0, top)
	hasAre(t, &s, false, 1, top-1, top+1, math.MaxUint64)
	nextIs(t, &s, top+1)
	spansAre(t, &s, api.Span{Lo: top, Hi: top}, api.Span{Lo: 0, Hi: 0})
	putsAre(t, &s, true, top-1, 1)
	spansAre(t, &s, api.Span{Lo: top - 1, Hi: top}, api.Span{Lo: 0, Hi: 1})
	nextIs(t, &s, top+1)
}

// TestBeyond: numbers above 2^62 - 1 never come, and change nothing.
func TestBeyond(t *testing.T) { // P17.1, R4
	for _, list := range [][]uint64{nil, {0}, {top}, {top, 0}, {top - 1}, apart(top-62, 1, 32), apart(top-64, 1, 33), apart(0, 1, 40)} {
		b := open(t)
		b.put(list...)
		for _, n := range beyond {
			putsAre(t, b.s, false, n, n)
			hasAre(t, b.s, false, n)
			b.put(n)
			b.same()
		}
		for at := range 62 {
			putsAre(t, b.s, false, 1<<62|1<<at, 1<<63|1<<at)
		}
		b.same()
	}
}

// TestOrders: numbers in all orders.
func TestOrders(t *testing.T) { // P17.1
	for _, list := range [][]uint64{{0, 1, 2, 3, 4, 5}, {7, 9, 10, 12, 14, 15}, {top - 4, top - 3, top - 1, top, 0, 1}} {
		orders(nil, list, func(one []uint64) {
			b := open(t)
			b.each(one...)
			b.put(one...)
			b.same()
		})
	}
}

// TestDoubled: every list of five numbers out of six, the same ones among them.
func TestDoubled(t *testing.T) { // P17.1
	for code := range 6 * 6 * 6 * 6 * 6 {
		b := open(t)
		for range 5 {
			b.put(uint64(code % 6))
			code /= 6
		}
		b.same()
	}
}

// TestOnce: of however many times that a number comes, one alone answers true.
func TestOnce(t *testing.T) { // P17.1, P6
	r := rand.New(rand.NewSource(1))
	for _, wide := range []int{1, 5, 40, 100, 1000} {
		var s Seen
		taken := map[uint64]bool{}
		for range 4000 {
			n := uint64(r.Intn(wide))
			if s.Put(n) && taken[n] {
				t.Fatalf("%d came twice", n)
			}
			taken[n] = true
			hasAre(t, &s, true, n)
		}
	}
}

// TestHas: numbers of a span, just beside it, and between two.
func TestHas(t *testing.T) { // P17.1
	var s Seen
	putsAre(t, &s, true, 10, 11, 12, 20, 30, 31)
	hasAre(t, &s, true, 10, 11, 12, 20, 30, 31)
	hasAre(t, &s, false, 0, 1, 8, 9, 13, 14, 18, 19, 21, 22, 25, 28, 29, 32, 33, top)
	spansAre(t, &s, api.Span{Lo: 30, Hi: 31}, api.Span{Lo: 20, Hi: 20}, api.Span{Lo: 10, Hi: 12})
}

// TestSpans: a number behind a span, ahead of it, between two, and far from all, wherever the span stands.
func TestSpans(t *testing.T) { // P17.1
	for _, count := range []int{1, 2, 3, 31, 32} {
		list := apart(100, 4, count)
		for at, n := range list {
			for _, more := range [][]uint64{
				{n + 1}, {n - 1}, {n + 1, n + 2}, {n - 1, n - 2}, {n + 1, n - 1}, {n - 1, n + 1},
				{n + 2, n + 1}, {n - 2, n - 1}, {n + 1, n + 2, n + 3, n + 4}, {n - 1, n - 2, n - 3, n - 4},
				{n + 4, n + 3, n + 2, n + 1}, {n + 1, n + 4, n + 2, n + 3}, {n - 4, n - 1, n - 3, n - 2},
			} {
				b := open(t)
				b.put(list[at:]...)
				b.put(list[:at]...)
				b.each(more...)
			}
		}
	}
}

// TestJoined: two spans become one when the number between them comes, and those about them stay.
func TestJoined(t *testing.T) { // P17.1
	var s Seen
	putsAre(t, &s, true, 1, 3, 4, 6, 7, 8, 10, 12)
	spansAre(t, &s, api.Span{Lo: 12, Hi: 12}, api.Span{Lo: 10, Hi: 10}, api.Span{Lo: 6, Hi: 8}, api.Span{Lo: 3, Hi: 4}, api.Span{Lo: 1, Hi: 1})
	putsAre(t, &s, true, 5)
	spansAre(t, &s, api.Span{Lo: 12, Hi: 12}, api.Span{Lo: 10, Hi: 10}, api.Span{Lo: 3, Hi: 8}, api.Span{Lo: 1, Hi: 1})
	putsAre(t, &s, true, 11)
	spansAre(t, &s, api.Span{Lo: 10, Hi: 12}, api.Span{Lo: 3, Hi: 8}, api.Span{Lo: 1, Hi: 1})
	putsAre(t, &s, true, 2)
	spansAre(t, &s, api.Span{Lo: 10, Hi: 12}, api.Span{Lo: 1, Hi: 8})
	putsAre(t, &s, true, 9)
	spansAre(t, &s, api.Span{Lo: 1, Hi: 12})
	putsAre(t, &s, true, 0)
	spansAre(t, &s, api.Span{Lo: 0, Hi: 12})
	putsAre(t, &s, false, 0, 1, 2, 3, 4, 5, 6, 7, 8, 9, 10, 11, 12)
	nextIs(t, &s, 13)
}

// TestFull: 32 spans all stay, in whichever order they come, and nothing below them counts as come.
func TestFull(t *testing.T) { // P17.1
	r := rand.New(rand.NewSource(2))
	list := apart(10, 1, 32)
	for _, one := range [][]uint64{list, turned(list), mixed(r, list), mixed(r, list)} {
		b := open(t)
		b.each(one...)
		if got := b.s.Spans(); len(got) != 32 || got[0].Hi != 72 || got[31].Lo != 10 {
			t.Fatalf("Spans: %d", got)
		}
		hasAre(t, b.s, false, 0, 1, 8, 9, 11, 71, 73)
		b.each(9, 8, 8, 0)
	}
}

// TestFloor: one span more than 32: the lowest goes, and the floor is the Lo of the lowest that stays.
func TestFloor(t *testing.T) { // P17.1
	var s Seen
	putsAre(t, &s, true, apart(100, 1, 32)...)
	putsAre(t, &s, true, 101) // 31 spans: 100 to 102, 104, .. 162
	putsAre(t, &s, true, 50)  // 32 again
	hasAre(t, &s, false, 49, 51, 99)
	putsAre(t, &s, true, 170)
	list := s.Spans()
	if len(list) != 32 || list[31] != (api.Span{Lo: 100, Hi: 102}) || list[0] != (api.Span{Lo: 170, Hi: 170}) {
		t.Fatalf("Spans: %d", list)
	}
	hasAre(t, &s, true, 0, 1, 49, 50, 51, 98, 99, 100, 101, 102, 104)
	hasAre(t, &s, false, 103, 105, 169, 171)
	putsAre(t, &s, false, 0, 1, 49, 50, 51, 98, 99, 100, 101, 102, 104)
	spansAre(t, &s, list...)
	nextIs(t, &s, 171)
	putsAre(t, &s, true, 103)
	if got := s.Spans(); len(got) != 31 || got[30] != (api.Span{Lo: 100, Hi: 104}) {
		t.Fatalf("Spans: %d", got)
	}
	// The floor stays, though there is room again.
	hasAre(t, &s, true, 0, 99)
	putsAre(t, &s, false, 0, 99)
}

// TestBelowAll: a number below all spans, when there are 32, comes, and goes at once: what is below the lowest of the 32 counts as come, whether or not that is just beside it.
func TestBelowAll(t *testing.T) { // P17.1
	for _, n := range []uint64{0, 1, 50, 97, 98} {
		var s Seen
		putsAre(t, &s, true, apart(100, 1, 32)...)
		list := s.Spans()
		hasAre(t, &s, false, n)
		putsAre(t, &s, true, n)
		spansAre(t, &s, list...)
		hasAre(t, &s, true, 0, n, 98, 99, 100)
		hasAre(t, &s, false, 101)
		putsAre(t, &s, false, n, 0, 98, 99, 100)
		spansAre(t, &s, list...)
		nextIs(t, &s, 163)
	}
	var s Seen
	putsAre(t, &s, true, apart(100, 1, 32)...)
	putsAre(t, &s, true, 99) // just ahead of the lowest: it needs no span of its own
	hasAre(t, &s, false, 0, 98)
	if got := s.Spans(); len(got) != 32 || got[31] != (api.Span{Lo: 99, Hi: 100}) {
		t.Fatalf("Spans: %d", got)
	}
}

// TestMoreGo: the lowest span goes again and again: numbers above all, between two, and amid the lowest ones.
func TestMoreGo(t *testing.T) { // P17.1
	b := open(t)
	b.each(apart(5, 2, 100)...)
	hasAre(t, b.s, true, 5, 6, 7, 208)
	hasAre(t, b.s, false, 210, 213)
	for at := range 32 {
		b := open(t)
		b.put(apart(100, 5, 32)...)
		between := 100 + 6*uint64(at) + 3
		b.each(between, between-1, between+1, 99, 98, 1000, 0, between+2, between-2, 900, 101, 107, 113)
	}
}

// TestNearFull: every list of three numbers about 31 or 32 spans.
func TestNearFull(t *testing.T) { // P17.1
	for _, count := range []int{31, 32} {
		list := apart(100, 2, count)
		last := list[count-1]
		about := []uint64{0, 97, 98, 99, 100, 101, 102, 103, 104, 105, 106, 145, 146, last - 4, last - 2, last - 1, last + 1, last + 2, last + 3, top}
		for _, one := range about {
			for _, two := range about {
				for _, three := range about {
					b := open(t)
					b.put(list...)
					b.put(one, two, three)
					b.same()
				}
			}
		}
	}
}

// TestNext: none came; then behind numbers in any order; behind spans that went.
func TestNext(t *testing.T) { // P17.1
	var s Seen
	nextIs(t, &s, 0)
	for _, v := range []struct{ n, next uint64 }{
		{0, 1}, {5, 6}, {3, 6}, {4, 6}, {5, 6}, {6, 7}, {1, 7}, {100, 101}, {99, 101}, {101, 102}, {1 << 40, 1<<40 + 1}, {top + 1, 1<<40 + 1}, {top - 1, top}, {0, top}, {top, top + 1}, {7, top + 1}, {top + 1, top + 1},
	} {
		s.Put(v.n)
		nextIs(t, &s, v.next)
	}
	for _, list := range [][]uint64{apart(0, 1, 50), turned(apart(0, 1, 50))} {
		var s Seen
		for i, n := range list {
			s.Put(n)
			nextIs(t, &s, slices.Max(list[:i+1])+1)
		}
	}
}

// TestByChance: numbers near each other and far apart, ahead of the greatest and behind it, as packets come.
func TestByChance(t *testing.T) { // P17.1
	r := rand.New(rand.NewSource(3))
	pick := []func(at int) uint64{
		func(int) uint64 { return uint64(r.Intn(70)) },
		func(int) uint64 { return uint64(r.Intn(200)) },
		func(int) uint64 { return uint64(r.Intn(3000)) },
		func(int) uint64 { return top + 8 - uint64(r.Intn(120)) },
		func(int) uint64 { return r.Uint64() >> r.Intn(64) },
		func(at int) uint64 { return uint64(at + r.Intn(8)) },
		func(at int) uint64 { return uint64(2*at + r.Intn(90)) },
		func(at int) uint64 { return uint64(5000 - 3*at + r.Intn(40)) },
		func(at int) uint64 { return uint64(at*3) - uint64(at%2*r.Intn(200)) },
	}
	for _, one := range pick {
		for range 12 {
			b := open(t)
			for at := range 300 {
				b.put(one(at))
				b.same()
			}
		}
	}
}

// TestRow: a great many numbers in a row, and with a few missing, end soon.
func TestRow(t *testing.T) { // P1, P17.1
	var s, odd Seen
	for n := range uint64(1 << 20) {
		if !s.Put(n) || s.Put(n) || !odd.Put(2*n+1) {
			t.Fatal(n)
		}
	}
	spansAre(t, &s, api.Span{Lo: 0, Hi: 1<<20 - 1})
	hasAre(t, &odd, true, 0, 1<<21-65, 1<<21-64, 1<<21-63)
	hasAre(t, &odd, false, 1<<21-62, 1<<21-60)
	if list := odd.Spans(); len(list) != 32 {
		t.Fatalf("Spans: %d", list)
	}
}

// TestNewMemory: what Spans answered may be changed, up to its room, and nothing else is.
func TestNewMemory(t *testing.T) { // P17.1, R6
	for count := range 40 {
		b := open(t)
		b.put(apart(7, 1, count)...)
		one, other := b.s.Spans(), b.s.Spans()
		want := slices.Clone(other)
		one = append(one, api.Span{Lo: 1, Hi: 2})
		one = one[:cap(one)]
		for i := range one {
			one[i] = api.Span{Lo: 500, Hi: 600}
		}
		if !slices.Equal(other, want) {
			t.Fatal("two answers share memory")
		}
		b.same()
		b.each(8, 3, 1000, 999)
		if !slices.Equal(other, want) {
			t.Fatal("an answer changes behind a Put")
		}
	}
}

// TestApart: two Seens have nothing of each other, be one a copy of the other.
func TestApart(t *testing.T) { // R6, R8
	for _, count := range []int{0, 1, 5, 31, 32, 40} {
		one := open(t)
		one.put(apart(10, 2, count)...)
		copied := *one.s
		other := both{t, &copied, &model{came: maps.Clone(one.m.came), floor: one.m.floor}}
		one.each(11, 12, 1000, 14, 90)
		other.same()
		other.each(2000, 91, 16, 15, 3)
		one.same()
	}
}

// TestAskedOnly: asking changes nothing, nor does a Put that answers false.
func TestAskedOnly(t *testing.T) { // R4, R8
	r := rand.New(rand.NewSource(4))
	for range 50 {
		var asked, quiet Seen
		for range 150 {
			n := uint64(r.Intn(250))
			for range r.Intn(4) {
				m := uint64(r.Intn(250))
				if asked.Has(m) {
					putsAre(t, &asked, false, m)
				}
				putsAre(t, &asked, false, top+1+m)
				asked.Spans()
				asked.Next()
			}
			if asked.Put(n) != quiet.Put(n) {
				t.Fatalf("Put(%d)", n)
			}
			spansAre(t, &asked, quiet.Spans()...)
			nextIs(t, &asked, quiet.Next())
			for m := range uint64(260) {
				hasAre(t, &asked, quiet.Has(m), m)
			}
		}
	}
}

// TestAnyOrder: numbers that need no more than 32 spans at any time are the same in whichever order they come.
func TestAnyOrder(t *testing.T) { // P17.1, R8
	r := rand.New(rand.NewSource(5))
	for range 200 {
		list := make([]uint64, 0, 32)
		for range 1 + r.Intn(32) {
			list = append(list, uint64(r.Intn(60)))
		}
		one, other := open(t), open(t)
		one.put(list...)
		other.put(mixed(r, list)...)
		one.same()
		spansAre(t, other.s, one.s.Spans()...)
		nextIs(t, other.s, one.s.Next())
	}
}

// TestTogether: Seens of their own may be used at one time, and one may be asked by many.
func TestTogether(t *testing.T) { // R8
	var shared Seen
	putsAre(t, &shared, true, apart(10, 1, 40)...)
	list := shared.Spans()
	var group sync.WaitGroup
	for from := range uint64(8) {
		group.Go(func() {
			b := open(t)
			for _, n := range apart(from, from%3, 60) {
				if b.s.Put(n) != b.m.put(n) || !b.s.Has(n) || !slices.Equal(b.s.Spans(), b.m.spans()) {
					t.Errorf("Put(%d)", n)
				}
				if !shared.Has(12) || shared.Has(87) || shared.Next() != 89 || !slices.Equal(shared.Spans(), list) {
					t.Error("asked by many")
				}
			}
		})
	}
	group.Wait()
}
