package loss

import (
	"testing"

	"skiff/api"
)

// TestWindowBelow: below its limit the window is more by the size of each that is acknowledged, be there a sample or not.
func TestWindowBelow(t *testing.T) { // P18.2
	l := New()
	send(t, l, 2, packet(0, 10, 1200), packet(1, 10, 1), still(2, 10, 1200), packet(3, 10, 0), packet(4, 10, 777))
	stateIs(t, l, 12000, 1978, 100, 50)
	roomIs(t, l, 10022)
	ackIs(t, l, 2, 20, span(1, 2), of(1), nil)
	stateIs(t, l, 12001, 1977, 100, 50)
	roomIs(t, l, 10024)
	ackIs(t, l, 2, 20, span(0, 2), of(0), nil)
	stateIs(t, l, 13201, 777, 100, 50)
	ackIs(t, l, 2, 20, span(3, 4), of(3, 4), nil)
	stateIs(t, l, 13978, 0, 10, 5)
	roomIs(t, l, 13978)
}

// narrowed: a ledger whose window was made less at 500: it and its limit are 6000.
func narrowed(t *testing.T) *Ledger {
	l := New()
	send(t, l, 2, row(0, 3, 400, 0)...)
	ackIs(t, l, 2, 500, span(3, 3), of(3), of(0))
	stateIs(t, l, 6000, 0, 100, 50)
	l.Drop(2)
	return l
}

// TestWindowAt: at its limit and above, the window is more by 1200 times the size over itself, rounded down, one packet behind the other.
func TestWindowAt(t *testing.T) { // P18.2
	l := narrowed(t)
	send(t, l, 2, packet(4, 600, 1000), packet(5, 600, 1000), packet(6, 600, 1200), packet(7, 600, 5), packet(8, 600, 4), packet(9, 600, 0), packet(10, 600, 1200))
	ackIs(t, l, 2, 700, span(4, 4), of(4), nil)
	stateIs(t, l, 6200, 3409, 100, 37)
	ackIs(t, l, 2, 700, span(5, 6), of(5, 6), nil) // 1200000 / 6200 = 193 and a rest; 1440000 / 6393 = 225 and a rest
	stateIs(t, l, 6618, 1209, 100, 27)
	ackIs(t, l, 2, 700, span(7, 9), of(7, 8, 9), nil) // 6000 / 6618, 4800 / 6618: nothing
	stateIs(t, l, 6618, 1200, 100, 20)
	ackIs(t, l, 2, 700, span(10, 10), of(10), nil) // 1440000 / 6618 = 217 and a rest
	stateIs(t, l, 6835, 0, 100, 15)
}

// TestWindowBegan: packets that were sent up to the time at which the window was made less don't widen it.
func TestWindowBegan(t *testing.T) { // P18.2
	for _, v := range []struct{ time, window uint64 }{{0, 6000}, {400, 6000}, {499, 6000}, {500, 6000}, {501, 6200}, {502, 6200}, {latestTime, 6200}} {
		l := narrowed(t)
		send(t, l, 2, packet(4, v.time, 1000), packet(5, 500, 700), packet(6, 600, 0))
		ackIs(t, l, 2, 700, span(4, 6), of(4, 5, 6), nil)
		stateIs(t, l, v.window, 0, 100, 37)
	}
	// Of no loss yet: packets of the time 0, too, widen it.
	l := New()
	send(t, l, 0, packet(0, 0, 1000))
	ackIs(t, l, 0, 100, span(0, 0), of(0), nil)
	stateIs(t, l, 13000, 0, 100, 50)
}

// TestWindowAhead: what is acknowledged widens the window ahead of what is lost, which halves it.
func TestWindowAhead(t *testing.T) { // P18.2
	l := New()
	send(t, l, 1, row(0, 3, 100, 1001)...)
	ackIs(t, l, 1, 150, span(3, 3), of(3), of(0))
	stateIs(t, l, 6500, 2002, 50, 25) // 13001, and half of it
}

// TestByNumber: lost, if its number and 3 is below acked; just not, if it isn't.
func TestByNumber(t *testing.T) { // P18.2
	for in := range 3 {
		l := New()
		send(t, l, in, row(0, 9, 100, 10)...)
		ackIs(t, l, in, 100, span(2, 2), of(2), nil)
		openIs(t, l, in, 0, 1, 3, 4, 5, 6, 7, 8, 9)
		ackIs(t, l, in, 100, span(3, 3), of(3), of(0))
		ackIs(t, l, in, 100, span(6, 6), of(6), of(1))
		openIs(t, l, in, 4, 5, 7, 8, 9)
		ackIs(t, l, in, 100, span(7, 7), of(7), of(4))
		ackIs(t, l, in, 100, span(9, 9), of(9), of(5))
		openIs(t, l, in, 8)
	}
}

// TestByNumberFar: of numbers that aren't in a row.
func TestByNumberFar(t *testing.T) { // P18.2
	l := New()
	send(t, l, 0, packet(10, 100, 10), packet(17, 100, 10), packet(20, 100, 10), packet(topPn-3, 100, 10), packet(topPn-2, 100, 10), packet(topPn, 100, 10))
	ackIs(t, l, 0, 100, span(0, 20), of(10, 17, 20), nil)
	ackIs(t, l, 0, 100, span(topPn, topPn), of(topPn), of(topPn-3))
	openIs(t, l, 0, topPn-2)
}

// TestAboveAcked: packets above the greatest that was acknowledged aren't lost, however long ago they were sent, nor do they make a timeout.
func TestAboveAcked(t *testing.T) { // P18.2
	l := New()
	send(t, l, 0, packet(0, 900, 10), packet(1, 0, 10), packet(2, 5, 10))
	ackIs(t, l, 0, 1000, span(0, 0), of(0), nil)
	openIs(t, l, 0, 1, 2)
	timerIs(t, l, 900+300) // smooth 100, varies 50
	fireIs(t, l, 1199, nil, nil, nil)
	probes(t, l, 1200)
}

// TestByTime: lost, if its Time and the patience is up to now; just not, if it is one more; the earliest of the others' is the timeout.
func TestByTime(t *testing.T) { // P18.2, P18.3
	for _, v := range []struct {
		times   [2]uint64
		lost    []uint64
		timeout uint64 // 0: none
	}{
		{[2]uint64{989, 989}, of(0, 1), 0},
		{[2]uint64{990, 989}, of(0, 1), 0},
		{[2]uint64{990, 990}, of(0, 1), 0},
		{[2]uint64{991, 990}, of(1), 1081},
		{[2]uint64{990, 991}, of(0), 1081},
		{[2]uint64{0, 991}, of(0), 1081},
		{[2]uint64{991, 991}, nil, 1081},
		{[2]uint64{991, 992}, nil, 1081},
		{[2]uint64{1050, 992}, nil, 1082},
		{[2]uint64{1080, 1081}, nil, 1170},
		{[2]uint64{5000, 4000}, nil, 4090},
		{[2]uint64{latestTime, latestTime}, nil, latestTime + 90},
	} {
		l := New()
		send(t, l, 2, packet(0, v.times[0], 10), packet(1, v.times[1], 10), packet(2, 1000, 10))
		ackIs(t, l, 2, 1080, span(2, 2), of(2), v.lost) // smooth and latest 80: the patience is 90
		if v.timeout != 0 {
			timerIs(t, l, v.timeout)
		} else {
			noTimer(t, l)
		}
	}
}

// TestPatience: nine eighths of the greater of smooth and latest, rounded down, 1 at least.
func TestPatience(t *testing.T) { // P18.2
	for _, v := range []struct{ first, later, patience uint64 }{
		{80, 80, 90}, {80, 8, 79}, // smooth is 71
		{80, 800, 900},                                                         // smooth is 170
		{80, 81, 91},                                                           // smooth is 80
		{80, 79, 88},                                                           // smooth is 79, as latest is
		{9, 9, 10}, {7, 7, 7}, {8, 8, 9}, {1, 1, 1}, {2, 0, 1}, {100, 17, 100}, // smooth is 89
	} {
		for _, more := range []uint64{0, 1} { // just lost, and just not
			l := New()
			send(t, l, 1, packet(0, 1000, 0))
			ackIs(t, l, 1, 1000+v.first, span(0, 0), of(0), nil)
			send(t, l, 1, packet(1, 5000+v.later-v.patience+more, 0), packet(2, 5000, 0))
			if more == 0 {
				ackIs(t, l, 1, 5000+v.later, span(2, 2), of(2), of(1))
				noTimer(t, l)
			} else {
				ackIs(t, l, 1, 5000+v.later, span(2, 2), of(2), nil)
				timerIs(t, l, 5000+v.later+1)
			}
		}
	}
	// As long as there is no sample: 100, of which nine eighths are 112.
	l := New()
	send(t, l, 0, packet(0, 1000, 0), packet(1, 1001, 0), packet(2, 1002, 0), still(3, 1002, 0))
	ackIs(t, l, 0, 1112, span(2, 3), of(2), of(0))
	timerIs(t, l, 1001+112)
}

// TestPatienceLatest: the latest is the greater one as long as no other comes, in whichever space.
func TestPatienceLatest(t *testing.T) { // P18.2
	l := New()
	send(t, l, 0, packet(0, 0, 0), packet(1, 100, 0))
	send(t, l, 2, packet(0, 900, 0), packet(1, 920, 0), still(2, 920, 0))
	ackIs(t, l, 0, 10, span(0, 0), of(0), nil)
	ackIs(t, l, 0, 900, span(1, 1), of(1), nil) // smooth (70 + 800) / 8 = 108, latest 800
	ackIs(t, l, 2, 1799, span(1, 2), of(1), nil)
	timerIs(t, l, 1800)
	fireIs(t, l, 1800, nil, nil, of(0))
}

// TestNoTimeout: when the earliest is acknowledged, another's is the timeout; when none is left below acked, none is.
func TestNoTimeout(t *testing.T) { // P18.2, P18.3
	l := New()
	send(t, l, 1, packet(0, 1016, 0), packet(1, 1018, 0), packet(2, 1020, 0), packet(3, 1020, 0), still(4, 1020, 0))
	ackIs(t, l, 1, 1100, span(2, 2), of(2), nil) // smooth and latest 80: the patience is 90
	timerIs(t, l, 1106)
	ackIs(t, l, 1, 1101, span(0, 0), of(0), nil)
	timerIs(t, l, 1108)
	ackIs(t, l, 1, 1102, span(4, 4), nil, nil) // nothing is acknowledged: that packet 3 is below acked now makes no timeout yet
	timerIs(t, l, 1108)
	ackIs(t, l, 1, 1103, span(1, 1), of(1), nil)
	timerIs(t, l, 1110) // now it does
	ackIs(t, l, 1, 1104, span(3, 3), of(3), nil)
	noTimer(t, l)
	send(t, l, 1, packet(5, 1105, 0))
	timerIs(t, l, 1105+240)
}

// TestHalved: once for all that was sent up to now, again for what was sent behind, 2400 at least.
func TestHalved(t *testing.T) { // P18.2
	l := New()
	send(t, l, 2, row(0, 20, 100, 0)...)
	ackIs(t, l, 2, 100, span(10, 10), of(10), numbers(row(0, 7, 0, 0)))
	stateIs(t, l, 6000, 0, 1, 0)
	ackIs(t, l, 2, 100, span(15, 15), of(15), of(8, 9, 11, 12)) // sent at 100, as it was halved
	stateIs(t, l, 6000, 0, 1, 0)
	for _, v := range []struct{ time, window uint64 }{{100, 6000}, {101, 3000}, {101, 3000}, {102, 2400}, {150, 2400}} {
		l.Drop(2)
		pn := l.Acked(2) + 1000
		send(t, l, 2, row(pn, pn+3, v.time, 0)...)
		ackIs(t, l, 2, v.time, span(pn+3, pn+3), of(pn+3), of(pn))
		stateIs(t, l, v.window, 0, 1, 0)
	}
}

// TestHalvedLimit: a window that was halved is its own limit, at 2400, too, and one that is odd is rounded down.
func TestHalvedLimit(t *testing.T) { // P18.2
	for _, v := range []struct{ wider, half, more uint64 }{{0, 6000, 200}, {1, 6000, 200}, {1001, 6500, 184}, {1200, 6600, 181}} {
		l := New()
		send(t, l, 0, packet(0, 10, v.wider))
		ackIs(t, l, 0, 110, span(0, 0), of(0), nil)
		send(t, l, 0, row(1, 4, 200, 0)...)
		ackIs(t, l, 0, 300, span(4, 4), of(4), of(1))
		stateIs(t, l, v.half, 0, 100, 37)
		l.Drop(0)
		send(t, l, 0, packet(5, 301, 1000))
		ackIs(t, l, 0, 401, span(5, 5), of(5), nil)
		stateIs(t, l, v.half+v.more, 0, 100, 27)
	}
	l := New()
	for at := range uint64(4) { // 6000, 3000, 2400, 2400
		send(t, l, 0, row(at*10, at*10+3, at*10, 0)...)
		if _, lost, e := l.Ack(0, span(at*10+3, at*10+3), at*10+1); len(lost) != 3 || e != api.OK {
			t.Fatal(lost, e)
		}
	}
	stateIs(t, l, 2400, 0, 1, 0)
	send(t, l, 0, packet(40, 40, 7), packet(41, 40, 1))
	ackIs(t, l, 0, 41, span(40, 41), of(40, 41), nil) // 8400 / 2400 = 3 and a rest; 1200 / 2403: nothing
	stateIs(t, l, 2403, 0, 1, 0)
}

// TestHalvedAhead: packets that are lost ahead of the time they were sent at halve it one by one.
func TestHalvedAhead(t *testing.T) { // P18.2
	l := New()
	send(t, l, 0, packet(0, 50, 0), packet(1, 900, 0), packet(2, 101, 0), packet(3, 100, 0), packet(4, 900, 0), packet(5, 900, 0), packet(6, 900, 0))
	ackIs(t, l, 0, 100, span(6, 6), of(6), of(0, 1, 2, 3))
	stateIs(t, l, 2400, 0, 1, 0) // by 0, 1 and 2: 6000, 3000, 2400
	l = New()
	send(t, l, 0, packet(0, 900, 0), packet(1, 100, 0), packet(2, 99, 0), packet(3, 0, 0), packet(4, 900, 0), packet(5, 900, 0), packet(6, 900, 0))
	ackIs(t, l, 0, 100, span(6, 6), of(6), of(0, 1, 2, 3))
	stateIs(t, l, 6000, 0, 1, 0)
}

// TestHalvedSpaces: what was sent in one space by the time at which the window was made less for another doesn't halve it again.
func TestHalvedSpaces(t *testing.T) { // P18.2
	l := New()
	for in := range 3 {
		send(t, l, in, row(0, 3, uint64(100+in), 0)...)
	}
	ackIs(t, l, 1, 101, span(3, 3), of(3), of(0))
	stateIs(t, l, 6000, 0, 1, 0)
	ackIs(t, l, 0, 101, span(3, 3), of(3), of(0, 1, 2))
	stateIs(t, l, 6000, 0, 1, 0)
	ackIs(t, l, 2, 102, span(3, 3), of(3), of(0))
	stateIs(t, l, 3000, 0, 1, 0)
}

// TestTries: they are 0 again when something is acknowledged, with a sample or without, in whichever space.
func TestTries(t *testing.T) { // P18.2, P18.3
	for in := range 3 {
		for _, one := range []uint64{0, 1} {
			l := New()
			send(t, l, in, packet(0, 0, 0), packet(1, 0, 0))
			send(t, l, (in+1)%3, packet(0, 0, 0), still(1, 0, 0))
			probes(t, l, 300)
			probes(t, l, 900)
			timerIs(t, l, 900+1200)
			ackIs(t, l, in, 1000, nil, nil, nil)
			ackIs(t, l, (in+1)%3, 1000, span(1, 1), nil, nil)
			timerIs(t, l, 900+1200)
			if one == 0 {
				ackIs(t, l, in, 1000, span(0, 0), of(0), nil) // smooth 1000, varies 500
				timerIs(t, l, 900+3000)
			} else {
				ackIs(t, l, (in+1)%3, 1000, span(0, 1), of(0), nil)
				timerIs(t, l, 900+300)
			}
		}
	}
}
