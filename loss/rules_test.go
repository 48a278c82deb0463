package loss

import (
	"math"
	"math/rand"
	"slices"
	"sync"
	"testing"

	"skiff/api"
)

// TestDrop: those of a space aren't under way any more, it has no timeout, and tries is 0; all else stays.
func TestDrop(t *testing.T) { // P18.4
	for in := range 3 {
		l := New()
		for other, time := range []uint64{1000, 900, 950} {
			waiting(t, l, other, time, 100)
			send(t, l, other, packet(5, 1200, 10))
		}
		stateIs(t, l, 12000, 330, 100, 50)
		l.Drop(in)
		stateIs(t, l, 12000, 220, 100, 50)
		roomIs(t, l, 11780)
		timerIs(t, l, []uint64{1012, 1062, 1012}[in])
		for other := range 3 {
			ackedIs(t, l, other, 3)
			if other == in {
				openIs(t, l, other)
			} else {
				openIs(t, l, other, 0, 5)
			}
		}
		l.Drop(in)
		stateIs(t, l, 12000, 220, 100, 50)
		l.Drop((in + 1) % 3)
		l.Drop((in + 2) % 3)
		stateIs(t, l, 12000, 0, 100, 50)
		noTimer(t, l)
		fireIs(t, l, 5000, nil, nil, nil)
	}
}

// TestDropTries: tries is 0 behind it, whether or not something of the space was under way; of a space that there isn't nothing is done.
func TestDropTries(t *testing.T) { // P18.4, P18.3
	for in := range 3 {
		for _, dropped := range []int{in, (in + 1) % 3} {
			l := New()
			send(t, l, in, packet(0, 0, 10))
			send(t, l, (in+2)%3, packet(0, 0, 10))
			probes(t, l, 300)
			probes(t, l, 900)
			timerIs(t, l, 900+1200)
			for _, no := range noSpaces {
				l.Drop(no)
			}
			timerIs(t, l, 900+1200)
			stateIs(t, l, 12000, 20, 100, 50)
			l.Drop(dropped)
			timerIs(t, l, 900+300)
		}
	}
}

// TestDropLater: what comes later for a space that was given up: numbers rise on, what was dropped is neither acknowledged nor lost.
func TestDropLater(t *testing.T) { // P18.4
	for in := range 3 {
		b := open(t)
		for _, p := range row(0, 5, 100, 100) {
			b.sent(in, p)
		}
		b.ack(in, 150, api.Span{Lo: 1, Hi: 1})
		b.drop(in)
		b.look()
		ackIs(t, b.l, in, 160, span(3, 4), nil, nil)
		b.ack(in, 160, api.Span{Lo: 3, Hi: 4})
		ackedIs(t, b.l, in, 5)
		refused(t, b.l, in, 160, span(6, 6), api.ErrAck)
		sentIs(t, b.l, in, packet(5, 200, 10), api.ErrOrder)
		b.look()
		b.sent(in, packet(6, 200, 10))
		b.sent(in, packet(7, 210, 10))
		b.look()
		openIs(t, b.l, in, 6, 7)
		b.ack(in, 250, api.Span{Lo: 0, Hi: 7})
		b.look()
		noTimer(t, b.l)
	}
}

// TestRoom: the window less what is under way, of all spaces together; 0 at it, and beyond.
func TestRoom(t *testing.T) { // P18.4
	l := New()
	for pn := range uint64(9) {
		send(t, l, int(pn%3), packet(pn, 10, 1200))
		roomIs(t, l, 12000-1200*(pn+1))
	}
	send(t, l, 0, packet(9, 10, 1199))
	roomIs(t, l, 1)
	send(t, l, 1, packet(10, 10, 1))
	roomIs(t, l, 0)
	send(t, l, 2, packet(11, 10, 1))
	roomIs(t, l, 0)
	stateIs(t, l, 12000, 12001, 100, 50)
	send(t, l, 2, packet(12, 10, 1200), still(13, 10, 1200))
	roomIs(t, l, 0)
	stateIs(t, l, 12000, 13201, 100, 50)
	l.Drop(0)
	stateIs(t, l, 12000, 13201-3600-1199, 100, 50)
	roomIs(t, l, 12000-13201+3600+1199)
	l.Drop(2)
	l.Drop(1)
	roomIs(t, l, 12000)
}

// TestRoomNarrow: when the window is made less than what is under way, there is none.
func TestRoomNarrow(t *testing.T) { // P18.4, P18.2
	l := New()
	send(t, l, 2, row(0, 9, 100, 1200)...)
	ackIs(t, l, 2, 100, span(3, 3), of(3), of(0))
	stateIs(t, l, 6600, 9600, 1, 0)
	roomIs(t, l, 0)
	ackIs(t, l, 2, 100, span(9, 9), of(9), of(1, 2, 4, 5, 6))
	stateIs(t, l, 6600, 2400, 1, 0)
	roomIs(t, l, 4200)
}

// TestNil: a nil one does nothing, at every call.
func TestNil(t *testing.T) { // R7
	var l *Ledger
	for range 2 {
		for _, in := range append([]int{0, 1, 2}, noSpaces...) {
			for _, time := range []uint64{0, 5, latestTime, latestTime + 1, math.MaxUint64} {
				sentIs(t, l, in, packet(0, time, 100), api.ErrNil)
				sentIs(t, l, in, still(topPn+1, time, 1201), api.ErrNil)
				for _, spans := range [][]api.Span{nil, span(0, 0), span(1, 0), span(0, math.MaxUint64)} {
					refused(t, l, in, time, spans, api.ErrNil)
				}
				fireIs(t, l, time, nil, nil, nil)
			}
			l.Drop(in)
			ackedIs(t, l, in, 0)
			openIs(t, l, in)
		}
		noTimer(t, l)
		roomIs(t, l, 0)
		stateIs(t, l, 0, 0, 0, 0)
	}
}

// spoil: all that packets hold is changed, spare room included.
func spoil(list []api.Sent) {
	list = list[:cap(list)]
	for i := range list {
		p := &list[i]
		frames := p.Frames[:cap(p.Frames)]
		for j := range frames {
			f := &frames[j]
			data, acks := f.Data[:cap(f.Data)], f.Acks[:cap(f.Acks)]
			for k := range data {
				data[k] ^= 0xff
			}
			for k := range acks {
				acks[k] = api.Span{Lo: 77, Hi: 78}
			}
			*f = api.Frame{Kind: 99, Id: 98, Off: 97, N: 96, Code: 95, Fin: !f.Fin, Data: []byte{1, 2, 3}, Acks: span(5, 6)}
		}
		*p = api.Sent{Pn: 94, Time: 93, Size: 92, Frames: []api.Frame{{Kind: 91}}}
	}
}

// roomy: a packet whose lists have spare room.
func roomy(pn, time, size uint64) api.Sent {
	p := packet(pn, time, size)
	p.Frames = append(make([]api.Frame, 0, 8), p.Frames...)
	for i := range p.Frames {
		f := &p.Frames[i]
		f.Data = append(make([]byte, 0, 16), f.Data...)
		f.Acks = append(make([]api.Span, 0, 4), f.Acks...)
	}
	return p
}

// spare: how much of a packet's spare room isn't empty.
func spare(p api.Sent) int {
	count := 0
	for _, f := range p.Frames[len(p.Frames):cap(p.Frames)] {
		if f.Kind != 0 || f.Data != nil || f.Acks != nil {
			count++
		}
	}
	for _, f := range p.Frames {
		for _, one := range f.Data[len(f.Data):cap(f.Data)] {
			count += int(one)
		}
		for _, one := range f.Acks[len(f.Acks):cap(f.Acks)] {
			count += int(one.Lo + one.Hi)
		}
	}
	return count
}

// TestHandedIn: what is handed in isn't changed, nor kept.
func TestHandedIn(t *testing.T) { // R6
	b := open(t)
	var list []api.Sent
	for pn := range uint64(12) {
		list = append(list, roomy(pn, 100, 10))
		b.sent(2, list[pn])
		b.m.all[pn].p = copied(list[pn])
	}
	for pn, p := range list {
		if !same(list[pn:pn+1], []api.Sent{packet(uint64(pn), 100, 10)}) || spare(p) != 0 {
			t.Fatalf("a packet was changed: %v", p)
		}
	}
	spoil(list)
	b.look()
	spans := append(make([]api.Span, 0, 8), api.Span{Lo: 6, Hi: 7}, api.Span{Lo: 1, Hi: 3}, api.Span{Lo: 2, Hi: 7})
	want := slices.Clone(spans[:8])
	b.ack(2, 100, spans...)
	if !slices.Equal(spans[:8], want) {
		t.Fatalf("spans were changed: %d", spans[:8])
	}
	spans = spans[:8]
	for i := range spans {
		spans[i] = api.Span{Lo: 0, Hi: 11}
	}
	b.look()
	b.ack(2, 101, api.Span{Lo: 0, Hi: 11})
	b.look()
}

// TestNewMemory: answers may be changed, up to their room, and nothing else is: neither the ledger, nor another list of the same answer, nor another answer.
func TestNewMemory(t *testing.T) { // R6
	for _, first := range []int{0, 1} { // which list of Ack's is spoilt
		b := open(t)
		for in := range 3 {
			for pn := range uint64(12) {
				b.sent(in, roomy(pn, 100, 10))
			}
		}
		for in := range 3 {
			one, other := b.l.Open(in), b.l.Open(in)
			spoil(one)
			spoil(append(one, api.Sent{}))
			if !same(other, b.m.open(in)) {
				t.Fatal("two answers share memory")
			}
			b.look()
			spans := []api.Span{{Lo: 5, Hi: 7}}
			acked, lost, e := b.l.Ack(in, spans, 100)
			wantAcked, wantLost, want := b.m.ack(in, spans, 100)
			lists, wants := [][]api.Sent{acked, lost}, [][]api.Sent{wantAcked, wantLost}
			spoil(lists[first])
			spoil(append(lists[first], api.Sent{}))
			if e != want || !same(lists[1-first], wants[1-first]) || !same(other, append(append(slices.Clone(wantLost), wantAcked...), b.m.open(in)...)) {
				t.Fatal("two lists share memory")
			}
			b.look()
			spoil(lists[1-first])
			b.look()
		}
	}
}

// TestNewMemoryFire: the lists of Fire, too.
func TestNewMemoryFire(t *testing.T) { // R6
	for spoilt := range 3 {
		b := open(t)
		for in := range 3 {
			for pn := range uint64(5) {
				b.sent(in, roomy(pn, 100+pn, 10))
			}
			b.sent(in, still(5, 100, 10))
			b.ack(in, 105, api.Span{Lo: 3, Hi: 3})
		}
		for _, now := range []uint64{110, 212, 213, 214, 900} {
			lost, _ := b.l.Fire(now)
			want, _ := b.m.fire(now)
			spoil(lost[spoilt])
			spoil(append(lost[spoilt], api.Sent{}))
			for in := range 3 {
				if in != spoilt && !same(lost[in], want[in]) {
					t.Fatal("two lists share memory")
				}
			}
			b.look()
			for in := range 3 {
				spoil(lost[in])
			}
			b.look()
		}
	}
}

// TestWithinPacket: frames of one packet that share memory come back as they were, and share none.
func TestWithinPacket(t *testing.T) { // R6
	data, acks := []byte{1, 2, 3, 4}, []api.Span{{Lo: 5, Hi: 6}, {Lo: 1, Hi: 2}}
	frames := []api.Frame{{Kind: api.FCrypto, Data: data[:2]}, {Kind: api.FCrypto, Data: data[1:]}, {Kind: api.FAck, Acks: acks}, {Kind: api.FAck, Acks: acks[:1]}}
	l := New()
	send(t, l, 0, api.Sent{Pn: 0, Asks: true, Frames: frames}, api.Sent{Pn: 1, Asks: true, Frames: frames[:3]}, api.Sent{Pn: 2, Asks: true, Frames: frames})
	list := l.Open(0)
	spoil(list[:1:1])
	list[1].Frames[0].Data[1] = 9
	if got := list[1].Frames; got[1].Data[0] != 2 || len(got) != 3 {
		t.Fatal("frames share memory")
	}
	acked, _, _ := l.Ack(0, span(0, 2), 0)
	acked[0].Frames[2].Acks[0].Lo = 70
	if got := acked[0].Frames; got[3].Acks[0].Lo != 5 || acked[1].Frames[2].Acks[0].Lo != 5 {
		t.Fatal("frames share memory")
	}
	if !slices.Equal(data, []byte{1, 2, 3, 4}) || !slices.Equal(acks, []api.Span{{Lo: 5, Hi: 6}, {Lo: 1, Hi: 2}}) {
		t.Fatal("what was handed in is changed")
	}
}

// TestUnmade: a Ledger that New hasn't made doesn't panic; a wait, and the patience, is 1 at least.
func TestUnmade(t *testing.T) { // P1
	var l Ledger
	noTimer(t, &l)
	roomIs(t, &l, 0)
	send(t, &l, 2, packet(0, 10, 1200), packet(1, 11, 1200), still(2, 11, 1200))
	timerIs(t, &l, 12)
	probes(t, &l, 12)
	timerIs(t, &l, 14)
	ackIs(t, &l, 2, 11, span(2, 2), nil, nil)
	ackIs(t, &l, 2, 10, span(1, 2), of(1), nil)
	timerIs(t, &l, 11)
	ackIs(t, &l, 2, 10, span(0, 0), of(0), nil)
	roomIs(t, &l, 1440000+1) // 1200 times 1200 over 1, as over nothing nothing can be had; then over itself
	noTimer(t, &l)
	var other Ledger
	refused(t, &other, 0, 5, span(0, 0), api.ErrAck)
	other.Drop(0)
	fireIs(t, &other, 5, nil, nil, nil)
}

// TestAll: calls with all that may be handed in, good or not, panic nowhere, and are those of the plain ledger.
func TestAll(t *testing.T) { // P1, P18.1, P18.2, P18.3, P18.4
	r := rand.New(rand.NewSource(1))
	edges := []uint64{0, 1, 2, 3, 99, 100, 112, 300, 1199, 1200, 1201, 12000, 1 << 32, latestTime - 1, latestTime, latestTime + 1, topPn - 3, topPn - 1, topPn, topPn + 1, 1 << 63, math.MaxUint64 - 1, math.MaxUint64}
	edge := func() uint64 { return edges[r.Intn(len(edges))] }
	spaces := append([]int{0, 1, 2, 0, 1, 2, 0, 1, 2}, noSpaces...)
	for range 300 {
		b := open(t)
		for range 60 {
			in := spaces[r.Intn(len(spaces))]
			switch r.Intn(6) {
			case 0, 1, 2:
				p := packet(edge(), edge(), edge())
				p.Asks = r.Intn(4) > 0
				b.sent(in, p)
			case 3:
				var spans []api.Span
				for range r.Intn(4) {
					spans = append(spans, api.Span{Lo: edge(), Hi: edge()})
				}
				b.ack(in, edge(), spans...)
			case 4:
				b.fire(edge())
			case 5:
				if r.Intn(4) == 0 {
					b.drop(in)
				}
			}
			b.look()
		}
	}
}

// TestEach: each row of five calls out of a few.
func TestEach(t *testing.T) { // P18.1, P18.2, P18.3, P18.4
	calls := []func(b *both, time uint64){
		func(b *both, time uint64) { b.sent(0, packet(b.m.next(0), time, 1000)) },
		func(b *both, time uint64) { b.sent(0, still(b.m.next(0), time, 1000)) },
		func(b *both, time uint64) { b.sent(0, packet(b.m.next(0)+3, time, 900)) },
		func(b *both, time uint64) { b.sent(1, packet(b.m.next(1)+2, time, 1200)) },
		func(b *both, time uint64) { b.ack(0, time, api.Span{Lo: b.m.next(0) - 1, Hi: b.m.next(0) - 1}) },
		func(b *both, time uint64) { b.ack(0, time, api.Span{Lo: 1, Hi: 3}, api.Span{Lo: 0, Hi: 0}) },
		func(b *both, time uint64) { b.ack(1, time, api.Span{Lo: 1, Hi: b.m.next(1) - 1}) },
		func(b *both, time uint64) { b.fire(time) },
		func(b *both, time uint64) { at, _ := b.m.timer(); b.fire(at) },
		func(b *both, time uint64) { b.drop(0) },
	}
	for code := range 100000 {
		b := open(t)
		for at := range uint64(5) {
			calls[code%10](b, 70*(at*at+1))
			code /= 10
		}
		b.look()
	}
}

// way: how a conversation goes: how far apart packets are sent, how long answers take, how much is acknowledged at once, what goes wrong.
type way struct{ apart, takes, jitter, missing, quiet, spaces int }

// TestByChance: conversations as they go, of many ways: numbers with gaps, ACKs that come late, doubled and of packets long ago, times called late and early.
func TestByChance(t *testing.T) { // P18.1, P18.2, P18.3, P18.4, P6
	r := rand.New(rand.NewSource(2))
	for _, w := range []way{{1, 30, 0, 0, 0, 1}, {10, 30, 10, 4, 3, 3}, {3, 100, 90, 3, 2, 2}, {40, 20, 5, 6, 4, 3}, {200, 300, 299, 2, 5, 3}, {0, 1, 1, 4, 3, 2}, {5, 1000, 500, 8, 4, 1}, {1 << 20, 1 << 30, 1 << 29, 4, 3, 3}} {
		for range 40 {
			b := open(t)
			b.talk(r, w, 150)
		}
	}
}

// talk: a conversation of so many calls.
func (b *both) talk(r *rand.Rand, w way, count int) {
	b.t.Helper()
	now := uint64(r.Intn(500))
	for range count {
		in := r.Intn(w.spaces)
		switch r.Intn(12) {
		case 0, 1, 2, 3, 4:
			p := packet(b.m.next(in)+uint64(max(0, r.Intn(6)-4)), now-uint64(r.Intn(2))*min(now, uint64(r.Intn(20))), uint64(r.Intn(1201)))
			p.Asks = w.quiet == 0 || r.Intn(w.quiet) > 0
			b.sent(in, p)
		case 5, 6, 7, 8:
			b.ack(in, now-min(now, uint64(r.Intn(w.jitter+1)/3)), b.spans(r, in, w.missing)...)
		case 9:
			b.fire(now)
		case 10:
			if at, ok := b.m.timer(); ok {
				now = max(now, min(at, latestTime))
				b.fire(at - 1)
				b.fire(at + uint64(r.Intn(2)*r.Intn(200)))
			}
		case 11:
			if r.Intn(12) == 0 {
				b.drop(in)
			}
		}
		b.look()
		now += uint64(r.Intn(w.apart+1)) + uint64(r.Intn(8)/7*(w.takes+r.Intn(w.jitter+1)))
	}
}

// spans: of the numbers of a space, most of the last ones.
func (b *both) spans(r *rand.Rand, in, missing int) []api.Span {
	var list []api.Span
	next := b.m.next(in)
	for at := next; at > 0 && len(list) < 1+r.Intn(5); {
		hi := at - 1 - min(at-1, uint64(r.Intn(missing+1)))
		lo := hi - min(hi, uint64(r.Intn(4)))
		list = append(list, api.Span{Lo: lo, Hi: hi})
		at = lo
	}
	if r.Intn(8) == 0 {
		r.Shuffle(len(list), func(i, j int) { list[i], list[j] = list[j], list[i] })
		list = append(list, list...)
	}
	return list
}

// TestFlight: what is under way is what was sent and asks, less what was acknowledged, lost and dropped, and each packet is told of once.
func TestFlight(t *testing.T) { // P18.2, P18.3, P18.4
	r := rand.New(rand.NewSource(3))
	for range 60 {
		l := New()
		under := [3]map[uint64]uint64{{}, {}, {}}
		told := func(in int, list []api.Sent) {
			for _, p := range list {
				if size, ok := under[in][p.Pn]; !ok || size != p.Size {
					t.Fatalf("packet %d of space %d isn't under way", p.Pn, in)
				}
				delete(under[in], p.Pn)
			}
		}
		next, now := [3]uint64{}, uint64(0)
		for range 300 {
			in := r.Intn(3)
			switch r.Intn(5) {
			case 0, 1, 2:
				p := packet(next[in], now, uint64(r.Intn(1201)))
				send(t, l, in, p)
				under[in][p.Pn] = p.Size
				next[in]++
			case 3:
				if next[in] > 0 {
					lo := uint64(r.Intn(int(next[in])))
					acked, lost, e := l.Ack(in, span(lo, min(next[in]-1, lo+uint64(r.Intn(3)))), now)
					if e != api.OK {
						t.Fatal(e)
					}
					told(in, acked)
					told(in, lost)
				}
			case 4:
				lost, probe := l.Fire(now)
				if probe && len(lost[0])+len(lost[1])+len(lost[2]) > 0 {
					t.Fatal("lost, and a probe")
				}
				for in, list := range lost {
					told(in, list)
				}
			}
			now += uint64(r.Intn(40))
			sum := uint64(0)
			for in := range 3 {
				for _, size := range under[in] {
					sum += size
				}
				if len(l.Open(in)) != len(under[in]) {
					t.Fatal("Open")
				}
			}
			if window, flight, _, _ := l.State(); flight != sum || l.Room() != window-min(window, flight) {
				t.Fatalf("%d bytes are under way, not %d", flight, sum)
			}
		}
	}
}

// TestAskedOnly: asking changes nothing, nor does a call that answers an error, nor a Fire ahead of its time.
func TestAskedOnly(t *testing.T) { // R4, R8
	r := rand.New(rand.NewSource(4))
	for range 60 {
		asked, quiet := open(t), open(t)
		seed := r.Int63()
		one, other := rand.New(rand.NewSource(seed)), rand.New(rand.NewSource(seed))
		for range 60 {
			for _, in := range append([]int{0, 1, 2}, noSpaces...) {
				asked.l.Acked(in)
				asked.l.Open(in)
				if in < 0 || in > 2 {
					sentIs(t, asked.l, in, packet(topPn, 5, 5), api.ErrRange)
					asked.l.Drop(in)
				} else {
					refused(t, asked.l, in, 5, span(0, topPn), api.ErrAck)
					ackIs(t, asked.l, in, 5, nil, nil, nil)
				}
			}
			if at, ok := asked.l.Timer(); ok {
				fireIs(t, asked.l, at-1, nil, nil, nil)
				fireIs(t, asked.l, latestTime+1, nil, nil, nil)
			}
			asked.l.Room()
			asked.l.State()
			asked.talk(one, way{10, 60, 30, 4, 3, 3}, 1)
			quiet.talk(other, way{10, 60, 30, 4, 3, 3}, 1)
		}
		quiet.l = asked.l
		quiet.look()
	}
}

// TestManySpans: a great many spans end soon.
func TestManySpans(t *testing.T) { // P1
	l := New()
	send(t, l, 0, row(0, 1023, 100, 1)...)
	spans := make([]api.Span, 20000)
	for i := range spans {
		spans[i] = api.Span{Lo: 1020, Hi: 1023}
	}
	ackIs(t, l, 0, 100, spans, of(1020, 1021, 1022, 1023), numbers(row(0, 1019, 0, 0)))
}

// TestTogether: ledgers of their own may be used at one time, and one may be asked by many.
func TestTogether(t *testing.T) { // R8
	shared := New()
	send(t, shared, 1, row(0, 9, 100, 10)...)
	ackIs(t, shared, 1, 150, span(4, 4), of(4), of(0, 1))
	list := shared.Open(1)
	var group sync.WaitGroup
	for at := range 8 {
		group.Go(func() {
			l, m := New(), newPlain()
			for pn := range uint64(100) {
				p := packet(pn, pn*uint64(at+1), pn)
				if l.Sent(at%3, p) != m.sent(at%3, p) || !same(shared.Open(1), list) || shared.Acked(1) != 5 {
					t.Errorf("Sent(%d)", pn)
				}
				if pn%5 == 4 {
					acked, lost, _ := l.Ack(at%3, span(pn-2, pn), pn*uint64(at+2))
					wantAcked, wantLost, _ := m.ack(at%3, span(pn-2, pn), pn*uint64(at+2))
					if !same(acked, wantAcked) || !same(lost, wantLost) || shared.Room() != 6005-70 {
						t.Errorf("Ack(%d)", pn)
					}
				}
			}
		})
	}
	group.Wait()
}
