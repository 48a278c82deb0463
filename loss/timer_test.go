package loss

import (
	"math"
	"testing"

	"skiff/api"
)

// waiting: a space with a timeout by the patience of 112 that holds ahead of any sample: of packet 0, behind which packet 1 was acknowledged.
func waiting(t *testing.T, l *Ledger, in int, time, size uint64) {
	t.Helper()
	send(t, l, in, packet(0, time, size), packet(1, time, 0), still(2, time, 0))
	ackIs(t, l, in, time, span(1, 2), of(1), nil)
}

// TestTimer: with something under way alone, with nothing, and as often doubled as it waited in vain, 16 times at most.
func TestTimer(t *testing.T) { // P18.3
	for in := range 3 {
		l := New()
		noTimer(t, l)
		send(t, l, in, packet(0, 10, 500))
		last, wait := uint64(10), uint64(300)
		for tries := range 24 {
			timerIs(t, l, last+wait)
			fireIs(t, l, last+wait-1, nil, nil, nil)
			timerIs(t, l, last+wait)
			later := uint64(tries % 3 * 7) // called late, too
			probes(t, l, last+wait+later)
			last += wait + later
			if tries < 16 {
				wait *= 2
			}
		}
		timerIs(t, l, last+300*65536)
		stateIs(t, l, 12000, 500, 100, 50)
		openIs(t, l, in, 0)
		ackIs(t, l, in, last, span(0, 0), of(0), nil)
		noTimer(t, l)
	}
}

// TestTimerVaries: smooth and four times varies, of samples as they come; 1 at least.
func TestTimerVaries(t *testing.T) { // P18.3
	l := New()
	for at, v := range []struct{ took, wait uint64 }{
		{80, 80 + 4*40}, {80, 80 + 4*30}, {81, 80 + 4*22}, {1, 70 + 4*36}, {1, 61 + 4*44}, {400, 103 + 4*117},
	} {
		pn := uint64(2 * at)
		send(t, l, 2, packet(pn, 1000, 0))
		ackIs(t, l, 2, 1000+v.took, span(pn, pn), of(pn), nil)
		noTimer(t, l)
		send(t, l, 2, packet(pn+1, 2000, 0))
		timerIs(t, l, 2000+v.wait)
		l.Drop(2)
	}
	l = New()
	send(t, l, 0, packet(0, 7, 0))
	ackIs(t, l, 0, 7, span(0, 0), of(0), nil)
	send(t, l, 0, packet(1, 7, 0))
	timerIs(t, l, 8)
	probes(t, l, 8)
	timerIs(t, l, 10)
	// The longest wait: 2^40, and four times half of it.
	l = New()
	send(t, l, 0, packet(0, 0, 0))
	ackIs(t, l, 0, latestTime, span(0, 0), of(0), nil)
	stateIs(t, l, 12000, 0, latestTime, latestTime/2)
	send(t, l, 0, packet(1, latestTime, 0))
	timerIs(t, l, 4*latestTime)
	fireIs(t, l, latestTime, nil, nil, nil)
}

// TestTimerBytes: a packet without bytes is under way, too, be it in whichever space.
func TestTimerBytes(t *testing.T) { // P18.3
	for in := range 3 {
		l := New()
		send(t, l, in, packet(0, 10, 0))
		stateIs(t, l, 12000, 0, 100, 50)
		timerIs(t, l, 310)
		probes(t, l, 310)
		timerIs(t, l, 310+600)
	}
}

// TestTimeouts: of several spaces: the earliest; Fire of one of them, of two, of all.
func TestTimeouts(t *testing.T) { // P18.3
	for _, v := range []struct {
		now   uint64
		lost  [3][]uint64
		timer uint64 // 0: none
	}{
		{0, [3][]uint64{}, 1012}, {1011, [3][]uint64{}, 1012},
		{1012, [3][]uint64{nil, of(0), nil}, 1062}, {1061, [3][]uint64{nil, of(0), nil}, 1062},
		{1062, [3][]uint64{nil, of(0), of(0)}, 1112}, {1111, [3][]uint64{nil, of(0), of(0)}, 1112},
		{1112, [3][]uint64{of(0), of(0), of(0)}, 0}, {5000, [3][]uint64{of(0), of(0), of(0)}, 0}, {latestTime, [3][]uint64{of(0), of(0), of(0)}, 0},
		{latestTime + 1, [3][]uint64{}, 1012}, {math.MaxUint64, [3][]uint64{}, 1012},
	} {
		l := New()
		for in, time := range []uint64{1000, 900, 950} {
			waiting(t, l, in, time, 100)
		}
		timerIs(t, l, 1012)
		fireIs(t, l, v.now, v.lost[0], v.lost[1], v.lost[2])
		if v.timer == 0 {
			noTimer(t, l)
		} else {
			timerIs(t, l, v.timer)
		}
		flight, window := uint64(300), uint64(12000)
		for in := range 3 {
			if len(v.lost[in]) > 0 {
				flight, window = flight-100, 6000
				openIs(t, l, in)
			} else {
				openIs(t, l, in, 0)
			}
		}
		stateIs(t, l, window, flight, 100, 50)
		if v.timer != 0 { // those that are left, one space behind the other
			for _, now := range []uint64{1012, 1062, 1112} {
				l.Fire(now)
			}
			noTimer(t, l)
			stateIs(t, l, 6000, 0, 100, 50)
		}
	}
}

// TestTimeoutWhole: what Fire answers is all that was sent of a packet, in their order.
func TestTimeoutWhole(t *testing.T) { // P18.3
	l := New()
	list := []api.Sent{packet(5, 100, 7), packet(6, 98, 8), packet(7, 97, 9)}
	send(t, l, 1, list...)
	send(t, l, 1, packet(8, 100, 7))
	ackIs(t, l, 1, 150, span(8, 8), of(8), of(5))
	lost, probe := l.Fire(400)
	if probe || !same(lost[1], list[1:]) || len(lost[0])+len(lost[2]) != 0 {
		t.Fatal(lost, probe)
	}
}

// TestTimeoutParts: of a space's packets those whose time is up, and no others; then those that are left.
func TestTimeoutParts(t *testing.T) { // P18.3
	l := New()
	send(t, l, 2, packet(0, 1000, 0), packet(1, 1005, 0), packet(2, 1003, 0), packet(3, 1000, 0))
	ackIs(t, l, 2, 1080, span(3, 3), of(3), of(0)) // by its number; smooth and latest 80: the patience is 90
	timerIs(t, l, 1093)
	fireIs(t, l, 1092, nil, nil, nil)
	fireIs(t, l, 1094, nil, nil, of(2))
	timerIs(t, l, 1095)
	fireIs(t, l, 1094, nil, nil, nil)
	fireIs(t, l, 1095, nil, nil, of(1))
	noTimer(t, l)
}

// TestTimeoutNoProbe: a timeout changes neither tries nor last.
func TestTimeoutNoProbe(t *testing.T) { // P18.3
	l := New()
	waiting(t, l, 0, 1000, 0)
	send(t, l, 0, packet(3, 1001, 0))
	timerIs(t, l, 1112)
	fireIs(t, l, 1120, of(0), nil, nil)
	timerIs(t, l, 1301)
	fireIs(t, l, 1300, nil, nil, nil)
	probes(t, l, 1301)
	timerIs(t, l, 1301+600)
}

// TestTimeoutAhead: as long as there is a timeout it is the Timer, though what is under way would be waited for less long.
func TestTimeoutAhead(t *testing.T) { // P18.3
	l := New()
	waiting(t, l, 0, 1000, 0)
	send(t, l, 1, packet(0, 1000, 0))
	ackIs(t, l, 1, 1008, span(0, 0), of(0), nil) // smooth 8, varies 4
	send(t, l, 1, packet(1, 1008, 0))
	timerIs(t, l, 1112)
	fireIs(t, l, 1008+24, nil, nil, nil)
	fireIs(t, l, 1111, nil, nil, nil)
	fireIs(t, l, 1112, of(0), nil, nil)
	timerIs(t, l, 1008+24)
	probes(t, l, 1112)
	timerIs(t, l, 1112+48)
}

// TestTimeoutLonger: the patience may have become longer: nothing is lost then, no probe is sent, and the timeout is later.
func TestTimeoutLonger(t *testing.T) { // P18.3
	l := New()
	waiting(t, l, 0, 1000, 10)
	send(t, l, 1, packet(0, 100, 0))
	ackIs(t, l, 1, 1100, span(0, 0), of(0), nil) // smooth and latest 1000: the patience is 1125
	timerIs(t, l, 1112)
	fireIs(t, l, 1112, nil, nil, nil)
	timerIs(t, l, 2125)
	stateIs(t, l, 12000, 10, 1000, 500)
	fireIs(t, l, 2124, nil, nil, nil)
	fireIs(t, l, 2125, of(0), nil, nil)
	noTimer(t, l)
}

// TestTimeoutShorter: or shorter: then more is lost than what the timeout was of.
func TestTimeoutShorter(t *testing.T) { // P18.3
	l := New()
	send(t, l, 2, packet(1, 1000, 0), packet(2, 1100, 0), packet(3, 1104, 0), packet(4, 1000, 0))
	send(t, l, 1, packet(0, 1000, 0))
	ackIs(t, l, 2, 1080, span(4, 4), of(4), of(1)) // by its number; the patience is 90
	timerIs(t, l, 1190)
	ackIs(t, l, 1, 1001, span(0, 0), of(0), nil) // smooth (560 + 1) / 8 = 70: 78
	timerIs(t, l, 1190)
	fireIs(t, l, 1190, nil, nil, of(2, 3))
	noTimer(t, l)
}

// TestTimeoutNumbers: lost is one word: also in Fire a packet is, if its number and 3 is below acked, once that has risen without anything acknowledged.
func TestTimeoutNumbers(t *testing.T) { // P18.3
	l := New()
	send(t, l, 0, packet(1, 1000, 0), packet(2, 1500, 0), packet(3, 1000, 0), packet(4, 1500, 0), still(5, 1000, 0), still(6, 1000, 0))
	ackIs(t, l, 0, 1080, span(3, 3), of(3), nil)
	timerIs(t, l, 1090)
	ackIs(t, l, 0, 1081, span(5, 6), nil, nil)
	timerIs(t, l, 1090)
	fireIs(t, l, 1090, of(1, 2), nil, nil)
	timerIs(t, l, 1590) // of packet 4
}

// TestFireLate: times at 2^40 and above, of a probe and of a timeout.
func TestFireLate(t *testing.T) { // P18.3
	for _, v := range []struct {
		sent uint64
		ok   bool
	}{{latestTime - 301, true}, {latestTime - 300, true}, {latestTime - 299, false}, {latestTime, false}} {
		l := New()
		send(t, l, 1, packet(0, v.sent, 0))
		for _, now := range []uint64{latestTime + 1, latestTime + 300, 1 << 41, 1 << 63, math.MaxUint64} {
			fireIs(t, l, now, nil, nil, nil)
			timerIs(t, l, v.sent+300)
		}
		if v.ok {
			probes(t, l, latestTime)
			timerIs(t, l, latestTime+600)
		} else {
			fireIs(t, l, latestTime, nil, nil, nil)
			timerIs(t, l, v.sent+300)
		}
	}
	for _, v := range []struct {
		sent uint64
		lost []uint64
	}{{latestTime - 112, of(0)}, {latestTime - 111, nil}} {
		l := New()
		waiting(t, l, 1, v.sent, 0)
		fireIs(t, l, latestTime+1, nil, nil, nil)
		fireIs(t, l, latestTime+112, nil, nil, nil)
		timerIs(t, l, v.sent+112)
		fireIs(t, l, latestTime, nil, v.lost, nil)
	}
}

// TestFireNothing: without a Timer the time changes nothing.
func TestFireNothing(t *testing.T) { // P18.3
	l := New()
	for _, now := range []uint64{0, 300, latestTime} {
		fireIs(t, l, now, nil, nil, nil)
	}
	send(t, l, 0, still(0, 10, 1000))
	fireIs(t, l, 5000, nil, nil, nil)
	send(t, l, 0, packet(1, 10, 0))
	timerIs(t, l, 310) // neither last nor tries has changed
}
