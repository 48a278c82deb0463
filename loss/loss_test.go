package loss

import (
	"math"
	"slices"
	"testing"

	"skiff/api"
)

// send: packets are sent in a space, without an error.
func send(t *testing.T, l *Ledger, in int, list ...api.Sent) {
	t.Helper()
	for _, p := range list {
		if e := l.Sent(in, p); e != api.OK {
			t.Fatalf("Sent(%d, %v): %d", in, p, e)
		}
	}
}

// sentIs: whether Sent answers that.
func sentIs(t *testing.T, l *Ledger, in int, p api.Sent, want api.Errno) {
	t.Helper()
	if e := l.Sent(in, p); e != want {
		t.Fatalf("Sent(%d, %v): %d, not %d", in, p, e, want)
	}
}

// stateIs: whether State is that.
func stateIs(t *testing.T, l *Ledger, want ...uint64) {
	t.Helper()
	window, flight, smooth, vary := l.State()
	if got := []uint64{window, flight, smooth, vary}; !slices.Equal(got, want) {
		t.Fatalf("State: %d, not %d", got, want)
	}
}

// timerIs: whether Timer is that time.
func timerIs(t *testing.T, l *Ledger, want uint64) {
	t.Helper()
	if at, ok := l.Timer(); at != want || !ok {
		t.Fatalf("Timer: %d, %v, not %d", at, ok, want)
	}
}

// noTimer: whether there is none.
func noTimer(t *testing.T, l *Ledger) {
	t.Helper()
	if at, ok := l.Timer(); at != 0 || ok {
		t.Fatalf("Timer: %d, %v", at, ok)
	}
}

// numbers: those of packets.
func numbers(list []api.Sent) []uint64 {
	out := make([]uint64, 0, len(list))
	for _, p := range list {
		out = append(out, p.Pn)
	}
	return out
}

// of: numbers.
func of(list ...uint64) []uint64 { return list }

// ackIs: whether Ack answers packets of these numbers.
func ackIs(t *testing.T, l *Ledger, in int, now uint64, spans []api.Span, wantAcked, wantLost []uint64) {
	t.Helper()
	acked, lost, e := l.Ack(in, spans, now)
	if e != api.OK || !slices.Equal(numbers(acked), wantAcked) || !slices.Equal(numbers(lost), wantLost) {
		t.Fatalf("Ack(%d, %d, %d): %d, %d, %d, not %d, %d", in, spans, now, numbers(acked), numbers(lost), e, wantAcked, wantLost)
	}
}

// refused: whether Ack answers that error, and nothing else.
func refused(t *testing.T, l *Ledger, in int, now uint64, spans []api.Span, want api.Errno) {
	t.Helper()
	if acked, lost, e := l.Ack(in, spans, now); e != want || len(acked)+len(lost) != 0 {
		t.Fatalf("Ack(%d, %d, %d): %d, %d, %d, not %d", in, spans, now, numbers(acked), numbers(lost), e, want)
	}
}

// fireIs: whether Fire answers packets of these numbers, and no probe.
func fireIs(t *testing.T, l *Ledger, now uint64, zero, one, two []uint64) {
	t.Helper()
	lost, probe := l.Fire(now)
	if probe || !slices.Equal(numbers(lost[0]), zero) || !slices.Equal(numbers(lost[1]), one) || !slices.Equal(numbers(lost[2]), two) {
		t.Fatalf("Fire(%d): %v, %v, not %d, %d, %d", now, lost, probe, zero, one, two)
	}
}

// probes: whether Fire answers a probe, and nothing lost.
func probes(t *testing.T, l *Ledger, now uint64) {
	t.Helper()
	if lost, probe := l.Fire(now); !probe || len(lost[0])+len(lost[1])+len(lost[2]) != 0 {
		t.Fatalf("Fire(%d): %v, %v, not a probe", now, lost, probe)
	}
}

// openIs: whether packets of these numbers are under way.
func openIs(t *testing.T, l *Ledger, in int, want ...uint64) {
	t.Helper()
	if got := numbers(l.Open(in)); !slices.Equal(got, want) {
		t.Fatalf("Open(%d): %d, not %d", in, got, want)
	}
}

// ackedIs: whether Acked is that.
func ackedIs(t *testing.T, l *Ledger, in int, want uint64) {
	t.Helper()
	if got := l.Acked(in); got != want {
		t.Fatalf("Acked(%d): %d, not %d", in, got, want)
	}
}

// roomIs: whether Room is that.
func roomIs(t *testing.T, l *Ledger, want uint64) {
	t.Helper()
	if got := l.Room(); got != want {
		t.Fatalf("Room: %d, not %d", got, want)
	}
}

// span: a list of one.
func span(lo, hi uint64) []api.Span { return []api.Span{{Lo: lo, Hi: hi}} }

// row: packets of numbers in a row, sent at one time.
func row(from, to, time, size uint64) []api.Sent {
	var list []api.Sent
	for pn := from; pn <= to; pn++ {
		list = append(list, packet(pn, time, size))
	}
	return list
}

// noSpaces: spaces that there aren't.
var noSpaces = []int{-1, 3, 4, -3, 256, 1 << 32, math.MinInt, math.MaxInt}

func TestExamples(t *testing.T) { // P18.1, P18.2
	for in := range 3 {
		l := New()
		send(t, l, in, packet(0, 10, 1000))
		stateIs(t, l, 12000, 1000, 100, 50)
		ackIs(t, l, in, 60, span(0, 0), of(0), nil)
		stateIs(t, l, 13000, 0, 50, 25)
	}
}

// TestNew: nothing was sent, and nothing is awaited; two have nothing of each other.
func TestNew(t *testing.T) { // P18.1, P18.3, P18.4
	if api.MaxTime != latestTime || api.MaxVar != topPn || api.MaxPacket != 1200 || api.MaxSentOpen != 1024 || api.Spaces != 3 {
		t.Fatal("the limits")
	}
	other := New()
	send(t, other, 1, packet(5, 7, 900))
	ackIs(t, other, 1, 50, span(5, 5), of(5), nil)
	l := New()
	stateIs(t, l, 12000, 0, 100, 50)
	roomIs(t, l, 12000)
	noTimer(t, l)
	for in := range 3 {
		ackedIs(t, l, in, 0)
		openIs(t, l, in)
		refused(t, l, in, 9, span(0, 0), api.ErrAck)
	}
	fireIs(t, l, 0, nil, nil, nil)
	fireIs(t, l, latestTime, nil, nil, nil)
	noTimer(t, l)
}

// TestSentRange: each limit, and one beyond, which changes nothing.
func TestSentRange(t *testing.T) { // P18.1, R4
	b := open(t)
	for in := range 3 {
		b.sent(in, packet(3, 7, 100))
	}
	for _, in := range noSpaces {
		sentIs(t, b.l, in, packet(4, 7, 100), api.ErrRange)
		sentIs(t, b.l, in, still(4, 7, 100), api.ErrRange)
	}
	for in := range 3 {
		for _, asks := range []bool{true, false} {
			for _, p := range []api.Sent{
				{Pn: 4, Time: latestTime + 1}, {Pn: 4, Time: 1 << 41}, {Pn: 4, Time: 1 << 63}, {Pn: 4, Time: math.MaxUint64},
				{Pn: 4, Size: 1201}, {Pn: 4, Size: 2400}, {Pn: 4, Size: 1 << 32}, {Pn: 4, Size: math.MaxUint64},
				{Pn: topPn + 1}, {Pn: topPn + 2}, {Pn: 1 << 63}, {Pn: math.MaxUint64},
			} {
				p.Asks = asks
				sentIs(t, b.l, in, p, api.ErrRange)
				b.look()
			}
		}
	}
	for in := range 3 {
		b.sent(in, packet(4, latestTime, 10))
		b.sent(in, packet(5, 0, 1200))
		b.look()
		b.sent(in, packet(topPn, latestTime, 1200))
		b.look()
		sentIs(t, b.l, in, packet(topPn, 9, 9), api.ErrOrder)
		sentIs(t, b.l, in, packet(topPn+1, 9, 9), api.ErrRange)
		b.look()
		openIs(t, b.l, in, 3, 4, 5, topPn)
		ackIs(t, b.l, in, 9, span(topPn, topPn), of(topPn), of(3, 4, 5))
		ackedIs(t, b.l, in, topPn+1)
		b.m.ack(in, span(topPn, topPn), 9)
		b.look()
	}
}

// TestSentOrder: numbers below next, at next, and far above it; of each space on its own.
func TestSentOrder(t *testing.T) { // P18.1, P6, R4
	for in := range 3 {
		b := open(t)
		b.sent(in, packet(0, 5, 10))
		sentIs(t, b.l, in, packet(0, 5, 10), api.ErrOrder)
		b.sent(in, packet(1, 5, 10))
		b.sent(in, packet(700, 5, 10))
		for _, pn := range []uint64{0, 1, 2, 350, 699, 700} {
			sentIs(t, b.l, in, packet(pn, 900, 10), api.ErrOrder)
			sentIs(t, b.l, in, still(pn, 900, 10), api.ErrOrder)
			b.look()
		}
		b.sent(in, still(701, 5, 10))
		sentIs(t, b.l, in, packet(701, 900, 10), api.ErrOrder)
		b.sent(in, packet(702, 5, 10))
		b.sent(in, packet(1<<40, 5, 10))
		b.sent(in, packet(1<<40+1, 5, 10))
		b.look()
		for other := range 3 {
			if other != in {
				b.sent(other, packet(uint64(other), 5, 10))
				sentIs(t, b.l, other, packet(uint64(other), 5, 10), api.ErrOrder)
				b.look()
			}
		}
		// Numbers stay used once, though their packets are under way no more.
		b.ack(in, 20, api.Span{Lo: 0, Hi: 1 << 40})
		b.drop(in)
		sentIs(t, b.l, in, packet(1<<40+1, 5, 10), api.ErrOrder)
		b.sent(in, packet(1<<40+2, 5, 10))
		b.look()
	}
}

// TestSentFull: 1024 packets of a space, and one more; there is room again, once one of them is under way no more.
func TestSentFull(t *testing.T) { // P18.1, R4
	for in := range 3 {
		b := open(t)
		for pn := range uint64(1023) {
			b.sent(in, packet(pn*2, 5, 1))
			b.sent(in, still(pn*2+1, 5, 1))
		}
		b.sent(in, packet(2046, 5, 1))
		if got := len(b.l.Open(in)); got != 1024 {
			t.Fatalf("%d are under way", got)
		}
		sentIs(t, b.l, in, packet(2047, 900, 1), api.ErrFull)
		sentIs(t, b.l, in, still(2047, 900, 1), api.ErrFull)
		b.look()
		for other := range 3 {
			if other != in {
				b.sent(other, packet(0, 5, 1))
			}
		}
		b.ack(in, 5, api.Span{Lo: 0, Hi: 0}) // packet 0: one is under way less
		b.sent(in, packet(2047, 900, 1))
		sentIs(t, b.l, in, packet(2048, 900, 1), api.ErrFull)
		b.look()
		b.drop(in)
		b.sent(in, still(2048, 900, 1))
		b.sent(in, packet(2049, 900, 1))
		b.look()
	}
}

// TestSentFullLost: packets that are lost make room, too.
func TestSentFullLost(t *testing.T) { // P18.1, P18.2
	b := open(t)
	for pn := range uint64(1024) {
		b.sent(2, packet(pn, 5, 1))
	}
	b.ack(2, 5, api.Span{Lo: 1000, Hi: 1000})
	openIs(t, b.l, 2, append(of(998, 999), numbers(row(1001, 1023, 0, 0))...)...)
	b.look()
	for pn := range uint64(999) {
		b.sent(2, packet(1024+pn, 7, 1))
	}
	sentIs(t, b.l, 2, packet(5000, 7, 1), api.ErrFull)
	b.look()
}

// TestSentFirstFault: of several faults the one that the sentence names first.
func TestSentFirstFault(t *testing.T) { // P18.1, R2, R4
	l := New()
	for pn := range uint64(1024) {
		send(t, l, 1, packet(pn+10, 5, 1))
	}
	for _, pn := range []uint64{0, 1033, 1034, topPn} { // below next twice, at it, and above
		sentIs(t, l, 3, packet(pn, 5, 1), api.ErrRange)
		sentIs(t, l, 1, packet(pn, latestTime+1, 1), api.ErrRange)
		sentIs(t, l, 1, packet(pn, 5, 1201), api.ErrRange)
		sentIs(t, l, 1, packet(topPn+1, 5, 1), api.ErrRange)
		want := api.ErrOrder
		if pn > 1033 {
			want = api.ErrFull
		}
		sentIs(t, l, 1, packet(pn, 5, 1), want)
	}
	sentIs(t, l, 0, packet(0, 5, 1), api.OK)
	sentIs(t, l, 0, packet(0, latestTime+1, 1), api.ErrRange)
	sentIs(t, l, 0, packet(0, 5, 1), api.ErrOrder)
}

// TestQuiet: packets that don't ask: next rises, nothing is under way, and last stays.
func TestQuiet(t *testing.T) { // P18.1
	for in := range 3 {
		b := open(t)
		b.sent(in, still(0, 900, 1200))
		b.sent(in, still(7, 900, 1200))
		stateIs(t, b.l, 12000, 0, 100, 50)
		noTimer(t, b.l)
		openIs(t, b.l, in)
		sentIs(t, b.l, in, still(7, 900, 1200), api.ErrOrder)
		b.look()
		refused(t, b.l, in, 950, span(8, 8), api.ErrAck)
		b.sent(in, packet(8, 10, 500))
		timerIs(t, b.l, 310)
		b.sent(in, still(9, 2000, 600))
		timerIs(t, b.l, 310)
		stateIs(t, b.l, 12000, 500, 100, 50)
		openIs(t, b.l, in, 8)
		b.look()
		b.ack(in, 950, api.Span{Lo: 0, Hi: 7})
		ackedIs(t, b.l, in, 8)
		stateIs(t, b.l, 12000, 500, 100, 50)
		b.look()
	}
}

// TestNotByFrames: whether a packet asks is as it says itself, whatever it carries.
func TestNotByFrames(t *testing.T) { // P18.1
	l := New()
	send(t, l, 2,
		api.Sent{Pn: 0, Time: 1, Size: 100, Frames: []api.Frame{{Kind: api.FPing}}},
		api.Sent{Pn: 1, Time: 1, Size: 100, Asks: true, Frames: []api.Frame{{Kind: api.FAck, Acks: span(0, 0)}}},
		api.Sent{Pn: 2, Time: 1, Size: 100, Asks: true})
	openIs(t, l, 2, 1, 2)
	stateIs(t, l, 12000, 200, 100, 50)
}

// TestLast: when the last packet that asks was sent: the latest time of all spaces, in whichever order they come.
func TestLast(t *testing.T) { // P18.1, P18.3
	l := New()
	send(t, l, 0, packet(0, 0, 10))
	timerIs(t, l, 300)
	send(t, l, 1, packet(0, 50, 10))
	timerIs(t, l, 350)
	send(t, l, 1, packet(1, 49, 10))
	timerIs(t, l, 350)
	send(t, l, 2, packet(0, 0, 10))
	timerIs(t, l, 350)
	send(t, l, 2, packet(1, 51, 10))
	timerIs(t, l, 351)
	send(t, l, 0, packet(1, latestTime, 10))
	timerIs(t, l, latestTime+300)
	send(t, l, 0, packet(2, 60, 10))
	timerIs(t, l, latestTime+300)
	l.Drop(0)
	timerIs(t, l, latestTime+300)
}

// TestAckRange: the space, and the time at its limit and beyond, which changes nothing.
func TestAckRange(t *testing.T) { // P18.2, R2, R4
	for in := range 3 {
		b := open(t)
		b.sent(in, packet(0, 5, 100))
		b.sent(in, packet(1, latestTime-3, 100))
		for _, no := range noSpaces {
			refused(t, b.l, no, 9, span(0, 0), api.ErrRange)
			refused(t, b.l, no, 9, nil, api.ErrRange)
		}
		for _, now := range []uint64{latestTime + 1, latestTime + 2, 1 << 41, 1 << 63, math.MaxUint64} {
			refused(t, b.l, in, now, span(0, 0), api.ErrRange)
			refused(t, b.l, in, now, nil, api.ErrRange)
			refused(t, b.l, in, now, span(1, 0), api.ErrRange)
			refused(t, b.l, in, now, span(2, 2), api.ErrRange)
			refused(t, b.l, 3, now, span(2, 2), api.ErrRange)
			refused(t, b.l, -1, 9, span(2, 0), api.ErrRange)
			b.look()
		}
		ackIs(t, b.l, in, latestTime, span(1, 1), of(1), of(0))
		stateIs(t, b.l, 6050, 0, 3, 1)
	}
}

// TestAckSpans: spans that are none, or of packets that weren't sent, alone and among others; they change nothing.
func TestAckSpans(t *testing.T) { // P18.2, R4
	for in := range 3 {
		b := open(t)
		refused(t, b.l, in, 9, span(0, 0), api.ErrAck)
		b.ack(in, 9)
		b.sent((in+1)%3, packet(90, 5, 100))
		for pn := range uint64(6) {
			b.sent(in, packet(pn+2, 5, 100))
		}
		b.sent(in, still(8, 5, 100)) // next is 9
		for _, one := range []api.Span{{Lo: 1, Hi: 0}, {Lo: 8, Hi: 7}, {Lo: 9, Hi: 8}, {Lo: topPn, Hi: 0}, {Lo: math.MaxUint64, Hi: 3}, {Lo: 0, Hi: 9}, {Lo: 9, Hi: 9}, {Lo: 8, Hi: 9}, {Lo: 2, Hi: 10}, {Lo: 0, Hi: topPn}, {Lo: 7, Hi: topPn + 1}, {Lo: 3, Hi: math.MaxUint64}, {Lo: math.MaxUint64, Hi: math.MaxUint64}} {
			right := api.Span{Lo: 3, Hi: 8}
			for _, list := range [][]api.Span{{one}, {right, one}, {one, right}, {right, right, one, right}} {
				refused(t, b.l, in, 9, list, api.ErrAck)
				b.ack(in, 9, list...)
				b.look()
			}
		}
		openIs(t, b.l, in, 2, 3, 4, 5, 6, 7)
		b.ack(in, 9, api.Span{Lo: 0, Hi: 8})
		openIs(t, b.l, in)
		b.look()
	}
}

// TestAckNothing: no span; spans over packets that were never sent, don't ask, or are no longer under way: nothing is acknowledged, and nothing more is done, but that the number rises.
func TestAckNothing(t *testing.T) { // P18.2, R5
	b := open(t)
	b.sent(2, packet(10, 100, 500))
	b.sent(2, still(20, 100, 500))
	b.sent(2, packet(30, 100, 500))
	b.fire(400) // a probe, so that tries isn't 0
	timerIs(t, b.l, 1000)
	for _, list := range [][]api.Span{nil, {}, span(0, 9), span(11, 19), {{Lo: 11, Hi: 12}, {Lo: 0, Hi: 3}}} {
		ackIs(t, b.l, 2, 500, list, nil, nil)
		b.ack(2, 500, list...)
		b.look()
	}
	ackedIs(t, b.l, 2, 20)
	ackIs(t, b.l, 2, 500, span(20, 29), nil, nil)
	ackedIs(t, b.l, 2, 30)
	b.ack(2, 500, api.Span{Lo: 20, Hi: 29})
	// Nothing more: packet 10 isn't lost, no timeout, no sample, tries stays.
	timerIs(t, b.l, 1000)
	stateIs(t, b.l, 12000, 1000, 100, 50)
	openIs(t, b.l, 2, 10, 30)
	b.look()
	b.ack(2, 500, api.Span{Lo: 30, Hi: 30})
	stateIs(t, b.l, 6250, 0, 400, 200)
	b.look()
	for _, one := range []api.Span{{Lo: 30, Hi: 30}, {Lo: 10, Hi: 10}, {Lo: 0, Hi: 30}} { // acknowledged, lost, all
		ackIs(t, b.l, 2, 700, []api.Span{one}, nil, nil)
		b.ack(2, 700, one)
		b.look()
	}
	stateIs(t, b.l, 6250, 0, 400, 200)
}

// TestAckOrder: packets are acknowledged in their order, once each, whatever the order of the spans, doubled and one over the other.
func TestAckOrder(t *testing.T) { // P18.2
	want := of(1, 2, 3, 6, 7, 9)
	for _, spans := range [][]api.Span{
		{{Lo: 9, Hi: 9}, {Lo: 6, Hi: 7}, {Lo: 1, Hi: 3}},
		{{Lo: 1, Hi: 3}, {Lo: 6, Hi: 7}, {Lo: 9, Hi: 9}},
		{{Lo: 6, Hi: 7}, {Lo: 9, Hi: 9}, {Lo: 1, Hi: 3}},
		{{Lo: 6, Hi: 7}, {Lo: 6, Hi: 7}, {Lo: 9, Hi: 9}, {Lo: 1, Hi: 3}, {Lo: 9, Hi: 9}, {Lo: 1, Hi: 3}},
		{{Lo: 1, Hi: 2}, {Lo: 2, Hi: 3}, {Lo: 7, Hi: 7}, {Lo: 6, Hi: 7}, {Lo: 9, Hi: 9}, {Lo: 3, Hi: 3}},
		{{Lo: 3, Hi: 3}, {Lo: 2, Hi: 2}, {Lo: 1, Hi: 1}, {Lo: 9, Hi: 9}, {Lo: 7, Hi: 7}, {Lo: 6, Hi: 6}},
	} {
		l := New()
		send(t, l, 1, row(0, 10, 100, 10)...)
		ackIs(t, l, 1, 150, spans, want, of(0, 4, 5))
		openIs(t, l, 1, 8, 10)
		ackedIs(t, l, 1, 10)
		stateIs(t, l, 6030, 20, 50, 25) // the window rises by six times 10 first
		b := open(t)
		for _, p := range row(0, 10, 100, 10) {
			b.sent(1, p)
		}
		b.ack(1, 150, spans...)
		b.look()
	}
}

// TestAckWhole: what is acknowledged, lost, and under way is all that was sent of a packet.
func TestAckWhole(t *testing.T) { // P18.2, P18.4
	l := New()
	list := row(0, 8, 100, 10)
	send(t, l, 2, list...)
	acked, lost, e := l.Ack(2, []api.Span{{Lo: 5, Hi: 7}, {Lo: 1, Hi: 1}}, 120)
	if e != api.OK || !same(acked, []api.Sent{list[1], list[5], list[6], list[7]}) || !same(lost, []api.Sent{list[0], list[2], list[3], list[4]}) {
		t.Fatalf("Ack: %v, %v, %d", acked, lost, e)
	}
	if got := l.Open(2); !same(got, list[8:]) {
		t.Fatalf("Open: %v", got)
	}
}

// TestAcked: the number behind the greatest that was acknowledged rises, and never falls; of each space on its own.
func TestAcked(t *testing.T) { // P18.2, P18.4
	l := New()
	for in := range 3 {
		send(t, l, in, row(0, 20, 100, 10)...)
	}
	for _, v := range []struct {
		spans []api.Span
		want  uint64
	}{
		{nil, 0}, {span(0, 0), 1}, {span(0, 0), 1}, {span(3, 5), 6}, {span(1, 2), 6}, {span(2, 4), 6}, {span(0, 5), 6}, {span(0, 6), 7},
		{[]api.Span{{Lo: 8, Hi: 8}, {Lo: 12, Hi: 14}, {Lo: 10, Hi: 11}}, 15}, {[]api.Span{{Lo: 1, Hi: 1}, {Lo: 0, Hi: 0}}, 15}, {span(20, 20), 21}, {span(0, 20), 21},
	} {
		if _, _, e := l.Ack(1, v.spans, 120); e != api.OK {
			t.Fatal(e)
		}
		ackedIs(t, l, 1, v.want)
		ackedIs(t, l, 0, 0)
		ackedIs(t, l, 2, 0)
	}
	ackIs(t, l, 2, 120, span(4, 4), of(4), of(0, 1)) // of one space alone packets are acknowledged, and lost
	ackedIs(t, l, 2, 5)
	ackedIs(t, l, 0, 0)
	openIs(t, l, 0, numbers(row(0, 20, 0, 0))...)
	for _, in := range noSpaces {
		ackedIs(t, l, in, 0)
		openIs(t, l, in)
	}
}

// TestSample: how long answers take: the first one of all, and later ones, each rounded down, of whichever space.
func TestSample(t *testing.T) { // P18.2
	l := New()
	pn := uint64(0)
	for at, v := range []struct{ took, smooth, vary uint64 }{
		{81, 81, 40},
		{33, 75, 42},         // (567 + 33) / 8 = 75; (120 + 48) / 4 = 42
		{200, 90, 62},        // (525 + 200) / 8 = 90 and a rest; (126 + 125) / 4 = 62 and a rest
		{90, 90, 46},         // nothing apart: 186 / 4
		{91, 90, 34},         // (138 + 1) / 4
		{89, 89, 25},         // (630 + 89) / 8; (102 + 1) / 4
		{0, 78, 40},          // at the time it was sent: 1: (623 + 1) / 8; (75 + 88) / 4
		{1, 68, 49},          // (546 + 1) / 8; (120 + 77) / 4
		{1000, 184, 269},     // (476 + 1000) / 8; (147 + 932) / 4
		{1 << 39, 0, 0},      // as reckoned below
		{1<<40 - 2000, 0, 0}, //
	} {
		if v.smooth == 0 {
			_, _, smooth, vary := l.State()
			v.vary = (3*vary + v.took - smooth) / 4
			v.smooth = (7*smooth + v.took) / 8
		}
		in := at % 3
		send(t, l, in, packet(pn, 1000, 0))
		ackIs(t, l, in, 1000+v.took, span(pn, pn), of(pn), nil)
		stateIs(t, l, 12000, 0, v.smooth, v.vary)
		pn++
	}
}

// TestFirstSample: one that is acknowledged ahead of its time, at it, and just behind; the half is rounded down.
func TestFirstSample(t *testing.T) { // P18.2
	for _, v := range []struct{ sent, now, smooth, vary uint64 }{
		{500, 500, 1, 0}, {500, 499, 1, 0}, {500, 0, 1, 0}, {latestTime, 0, 1, 0}, {500, 501, 1, 0}, {500, 502, 2, 1}, {500, 503, 3, 1}, {500, 504, 4, 2}, {0, latestTime, 1 << 40, 1 << 39}, {1, latestTime, 1<<40 - 1, 1<<39 - 1}, {0, 0, 1, 0},
	} {
		l := New()
		send(t, l, 0, packet(0, v.sent, 100))
		ackIs(t, l, 0, v.now, span(0, 0), of(0), nil)
		stateIs(t, l, 12100, 0, v.smooth, v.vary)
	}
	// Ahead of its time, as a later one: 1, too.
	l := New()
	send(t, l, 0, packet(0, 0, 0), packet(1, 900, 0))
	ackIs(t, l, 0, 80, span(0, 0), of(0), nil)
	ackIs(t, l, 0, 100, span(1, 1), of(1), nil)
	stateIs(t, l, 12000, 0, 70, 49) // (560 + 1) / 8; (120 + 79) / 4
}

// TestNoSample: only if the last that is acknowledged has the number acked - 1.
func TestNoSample(t *testing.T) { // P18.2
	l := New()
	send(t, l, 1, packet(0, 100, 0), still(1, 100, 0), packet(2, 100, 0), packet(3, 110, 0), packet(5, 100, 0))
	ackIs(t, l, 1, 130, span(0, 1), of(0), nil) // the greatest doesn't ask
	ackedIs(t, l, 1, 2)
	stateIs(t, l, 12000, 0, 100, 50)
	ackIs(t, l, 1, 140, span(2, 3), of(2, 3), nil) // the first one of all even now, and of packet 3
	stateIs(t, l, 12000, 0, 30, 15)
	ackIs(t, l, 1, 141, span(5, 5), of(5), nil)
	stateIs(t, l, 12000, 0, 31, 14) // (210 + 41) / 8; (45 + 11) / 4
	send(t, l, 1, packet(6, 200, 0), packet(7, 200, 0))
	ackIs(t, l, 1, 220, span(7, 7), of(7), nil)
	stateIs(t, l, 12000, 0, 29, 13) // (217 + 20) / 8; (42 + 11) / 4
	ackIs(t, l, 1, 225, span(6, 6), of(6), nil)
	stateIs(t, l, 12000, 0, 29, 13) // behind the greatest: none
	send(t, l, 1, packet(8, 300, 0), packet(9, 300, 0))
	ackIs(t, l, 1, 310, span(9, 9), of(9), nil)
	stateIs(t, l, 12000, 0, 26, 14) // (203 + 10) / 8; (39 + 19) / 4
	ackIs(t, l, 1, 320, span(0, 9), of(8), nil)
	stateIs(t, l, 12000, 0, 26, 14) // the greatest is in a span again, but was acknowledged already
}
