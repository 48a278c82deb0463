package loss

import (
	"fmt"
	"reflect"
	"slices"
	"testing"

	"skiff/api"
)

// latestTime is the greatest time, and topPn the greatest number of a packet.
const (
	latestTime = 1099511627776
	topPn      = 4611686018427387903
)

// fate is what came of a packet.
type fate int

const (
	quiet fate = iota // it doesn't ask
	underWay
	acknowledged
	gone
	dropped
)

// entry is a packet that was sent, and what came of it.
type entry struct {
	in   int
	p    api.Sent
	fate fate
}

// plain is a ledger of all packets that were ever sent, and of all spans that ever came, by the chapter's words.
type plain struct {
	all                  []entry
	heard                [3][]api.Span
	timeout              [3]uint64
	window, limit        uint64
	smooth, vary, latest uint64
	began, last          uint64
	tries                int
}

// newPlain: nothing was sent.
func newPlain() *plain {
	return &plain{window: 12000, limit: topPn, smooth: 100, vary: 50}
}

// next: the number behind the last of a space that was sent.
func (l *plain) next(in int) uint64 {
	n := uint64(0)
	for _, one := range l.all {
		if one.in == in {
			n = one.p.Pn + 1
		}
	}
	return n
}

// acked: the number behind the greatest of a space that was acknowledged.
func (l *plain) acked(in int) uint64 {
	n := uint64(0)
	if in >= 0 && in <= 2 {
		for _, one := range l.heard[in] {
			n = max(n, one.Hi+1)
		}
	}
	return n
}

// open: the packets of a space that are under way.
func (l *plain) open(in int) []api.Sent {
	var list []api.Sent
	for _, one := range l.all {
		if one.in == in && one.fate == underWay {
			list = append(list, one.p)
		}
	}
	return list
}

func (l *plain) sent(in int, p api.Sent) api.Errno {
	switch {
	case in < 0 || in > 2 || p.Time > latestTime || p.Size > 1200 || p.Pn > topPn:
		return api.ErrRange
	case p.Pn < l.next(in):
		return api.ErrOrder
	case len(l.open(in)) == 1024:
		return api.ErrFull
	case !p.Asks:
		l.all = append(l.all, entry{in, p, quiet})
		return api.OK
	}
	l.all = append(l.all, entry{in, p, underWay})
	if p.Time > l.last {
		l.last = p.Time
	}
	return api.OK
}

func (l *plain) ack(in int, spans []api.Span, now uint64) (acked, lost []api.Sent, e api.Errno) {
	if in < 0 || in > 2 || now > latestTime {
		return nil, nil, api.ErrRange
	}
	for _, one := range spans {
		if one.Lo > one.Hi || one.Hi >= l.next(in) {
			return nil, nil, api.ErrAck
		}
	}
	l.heard[in] = append(l.heard[in], spans...)
	for at := range l.all {
		for _, span := range spans {
			if one := &l.all[at]; one.in == in && one.fate == underWay && one.p.Pn >= span.Lo && one.p.Pn <= span.Hi {
				one.fate = acknowledged
				acked = append(acked, one.p)
			}
		}
	}
	if len(acked) == 0 {
		return nil, nil, api.OK
	}
	if last := acked[len(acked)-1]; last.Pn == l.acked(in)-1 {
		l.sample(last, now)
	}
	for _, p := range acked {
		if p.Time+1 <= l.began {
			continue
		}
		if l.window < l.limit {
			l.window += p.Size
		} else {
			l.window += 1200 * p.Size / l.window
		}
	}
	l.tries = 0
	return acked, l.lose(in, now), api.OK
}

func (l *plain) sample(p api.Sent, now uint64) {
	first := l.latest == 0
	l.latest = 1
	if now > p.Time {
		l.latest = now - p.Time
	}
	switch {
	case first:
		l.smooth, l.vary = l.latest, l.latest/2
	case l.latest > l.smooth:
		l.smooth, l.vary = (7*l.smooth+l.latest)/8, (3*l.vary+l.latest-l.smooth)/4
	default:
		l.smooth, l.vary = (7*l.smooth+l.latest)/8, (3*l.vary+l.smooth-l.latest)/4
	}
}

// patience: how long a packet is waited for behind which another was acknowledged.
func (l *plain) patience() uint64 {
	greater := l.smooth
	if l.latest > l.smooth {
		greater = l.latest
	}
	if eighths := greater * 9; eighths >= 8 {
		return eighths / 8
	}
	return 1
}

func (l *plain) lose(in int, now uint64) (lost []api.Sent) {
	acked := l.acked(in)
	l.timeout[in] = 0
	for at := range l.all {
		one := &l.all[at]
		if one.in != in || one.fate != underWay || one.p.Pn >= acked {
			continue
		}
		until := one.p.Time + l.patience()
		if one.p.Pn+3 < acked || until <= now {
			one.fate = gone
			lost = append(lost, one.p)
		} else if l.timeout[in] == 0 || until < l.timeout[in] {
			l.timeout[in] = until
		}
	}
	for _, p := range lost {
		if p.Time+1 > l.began {
			l.began = now + 1
			l.window /= 2
			if l.window < 2400 {
				l.window = 2400
			}
			l.limit = l.window
		}
	}
	return lost
}

func (l *plain) timer() (uint64, bool) {
	var times []uint64
	for _, at := range l.timeout {
		if at != 0 {
			times = append(times, at)
		}
	}
	if len(times) > 0 {
		return slices.Min(times), true
	}
	if len(l.open(0))+len(l.open(1))+len(l.open(2)) == 0 {
		return 0, false
	}
	wait := l.smooth + 4*l.vary
	for doubled := range l.tries {
		if doubled < 16 {
			wait *= 2
		}
	}
	return l.last + wait, true
}

func (l *plain) fire(now uint64) (lost [3][]api.Sent, probe bool) {
	at, ok := l.timer()
	if !ok || now < at || now > latestTime {
		return lost, false
	}
	probe = true
	for in := range 3 {
		if until := l.timeout[in]; until != 0 && until <= now {
			probe = false
			lost[in] = l.lose(in, now)
		}
	}
	if probe {
		l.tries, l.last = l.tries+1, now
	}
	return lost, probe
}

func (l *plain) drop(in int) {
	if in < 0 || in > 2 {
		return
	}
	for at := range l.all {
		if one := &l.all[at]; one.in == in && one.fate == underWay {
			one.fate = dropped
		}
	}
	l.timeout[in], l.tries = 0, 0
}

func (l *plain) state() [4]uint64 {
	flight := uint64(0)
	for _, one := range l.all {
		if one.fate == underWay {
			flight += one.p.Size
		}
	}
	return [4]uint64{l.window, flight, l.smooth, l.vary}
}

func (l *plain) room() uint64 {
	state := l.state()
	if state[1] > state[0] {
		return 0
	}
	return state[0] - state[1]
}

// both is a Ledger, and the plain one that it is held against; what was called so far.
type both struct {
	t      *testing.T
	l      *Ledger
	m      *plain
	called []string
}

// open: both, of which nothing was sent.
func open(t *testing.T) *both {
	return &both{t: t, l: New(), m: newPlain()}
}

// call: what is called now, for whoever reads of a fault.
func (b *both) call(text string, of ...any) {
	b.called = append(b.called, fmt.Sprintf(text, of...))
}

// fail: a fault, and the last calls that led to it.
func (b *both) fail(text string, of ...any) {
	b.t.Helper()
	b.t.Fatalf("%s\nbehind %d calls, at last %q", fmt.Sprintf(text, of...), len(b.called), b.called[max(0, len(b.called)-12):])
}

// sent: a packet is sent in both.
func (b *both) sent(in int, p api.Sent) {
	b.t.Helper()
	b.call("Sent(%d, %d at %d, %d bytes, %v)", in, p.Pn, p.Time, p.Size, p.Asks)
	if got, want := b.l.Sent(in, p), b.m.sent(in, copied(p)); got != want {
		b.fail("Sent: %d, not %d", got, want)
	}
}

// ack: spans come to both.
func (b *both) ack(in int, now uint64, spans ...api.Span) {
	b.t.Helper()
	b.call("Ack(%d, %d, %d)", in, spans, now)
	acked, lost, e := b.l.Ack(in, spans, now)
	wantAcked, wantLost, want := b.m.ack(in, spans, now)
	if e != want || !same(acked, wantAcked) || !same(lost, wantLost) {
		b.fail("Ack: %v, %v, %d,\nnot %v, %v, %d", acked, lost, e, wantAcked, wantLost, want)
	}
}

// fire: both are told the time.
func (b *both) fire(now uint64) {
	b.t.Helper()
	b.call("Fire(%d)", now)
	lost, probe := b.l.Fire(now)
	wantLost, want := b.m.fire(now)
	if probe != want || !same(lost[0], wantLost[0]) || !same(lost[1], wantLost[1]) || !same(lost[2], wantLost[2]) {
		b.fail("Fire: %v, %v,\nnot %v, %v", lost, probe, wantLost, want)
	}
}

// drop: a space is given up in both.
func (b *both) drop(in int) {
	b.call("Drop(%d)", in)
	b.l.Drop(in)
	b.m.drop(in)
}

// look: whether both answer the same of all that can be asked.
func (b *both) look() {
	b.t.Helper()
	window, flight, smooth, vary := b.l.State()
	if got, want := [4]uint64{window, flight, smooth, vary}, b.m.state(); got != want {
		b.fail("State: %d, not %d", got, want)
	}
	if got, want := b.l.Room(), b.m.room(); got != want {
		b.fail("Room: %d, not %d", got, want)
	}
	at, ok := b.l.Timer()
	if wantAt, want := b.m.timer(); at != wantAt || ok != want {
		b.fail("Timer: %d, %v, not %d, %v", at, ok, wantAt, want)
	}
	for in := -1; in <= 3; in++ {
		if got, want := b.l.Acked(in), b.m.acked(in); got != want {
			b.fail("Acked(%d): %d, not %d", in, got, want)
		}
		if got, want := b.l.Open(in), b.m.open(in); !same(got, want) {
			b.fail("Open(%d): %v,\nnot %v", in, got, want)
		}
	}
}

// packet: one that asks, with frames of its own.
func packet(pn, time, size uint64) api.Sent {
	p := api.Sent{Pn: pn, Time: time, Size: size, Asks: true}
	switch pn % 4 {
	case 1:
		p.Frames = []api.Frame{{Kind: api.FStream, Id: 4, Off: pn, Fin: true, Data: []byte{byte(pn), byte(size)}}}
	case 2:
		p.Frames = []api.Frame{{Kind: api.FPing}, {Kind: api.FAck, N: 7, Acks: []api.Span{{Lo: pn, Hi: pn + 1}, {Lo: 0, Hi: 0}}}}
	case 3:
		p.Frames = []api.Frame{{Kind: api.FReset, Id: pn, Code: time, N: size}, {Kind: api.FCrypto, Off: size, Data: []byte{9, 8, byte(time)}}, {Kind: api.FDone}}
	}
	return p
}

// still: a packet that doesn't ask.
func still(pn, time, size uint64) api.Sent {
	p := packet(pn, time, size)
	p.Asks = false
	return p
}

// copied: a packet once more, in memory of its own.
func copied(p api.Sent) api.Sent {
	frames := p.Frames
	p.Frames = nil
	for _, f := range frames {
		f.Data = append([]byte(nil), f.Data...)
		f.Acks = append([]api.Span(nil), f.Acks...)
		p.Frames = append(p.Frames, f)
	}
	return p
}

// plainly: packets in which a list without items is nil.
func plainly(list []api.Sent) []api.Sent {
	out := []api.Sent{}
	for _, p := range list {
		out = append(out, copied(p))
	}
	return out
}

// same: whether two lists have the same packets, in the same order.
func same(one, other []api.Sent) bool { return reflect.DeepEqual(plainly(one), plainly(other)) }
