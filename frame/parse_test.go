package frame

import (
	"bytes"
	"encoding/binary"
	"math"
	"math/big"
	"math/rand"
	"slices"
	"testing"

	"skiff/api"
)

// taker is a parser by the chapter's words, which leaves by a panic at the first fault.
type taker struct {
	b  []byte
	at int
}

// some: so many bytes.
func (k *taker) some(n uint64) []byte {
	if n > uint64(len(k.b)-k.at) {
		panic(api.ErrShort)
	}
	k.at += int(n)
	return k.b[k.at-int(n) : k.at]
}

// num: a short number.
func (k *taker) num() uint64 {
	size := 1 << (k.some(1)[0] >> 6)
	k.at--
	whole := append(make([]byte, 8-size), k.some(uint64(size))...)
	whole[8-size] &= 0x3f
	return binary.BigEndian.Uint64(whole)
}

// data: how many bytes, and they.
func (k *taker) data() []byte {
	n := k.num()
	if n > 2048 {
		panic(api.ErrLong)
	}
	return k.some(n)
}

// spans: of an ACK.
func (k *taker) spans(f *api.Frame) {
	at := new(big.Int).SetUint64(k.num())
	f.N = k.num()
	more, length := k.num(), k.num()
	if more >= 32 {
		panic(api.ErrMany)
	}
	down := func(n uint64) uint64 {
		if at.Sub(at, new(big.Int).SetUint64(n)).Sign() < 0 {
			panic(api.ErrForm)
		}
		return at.Uint64()
	}
	hi := at.Uint64()
	f.Acks = append(f.Acks, api.Span{Lo: down(length), Hi: hi})
	for range more {
		hi = down(k.num() + 2)
		f.Acks = append(f.Acks, api.Span{Lo: down(k.num()), Hi: hi})
	}
}

// one: a frame.
func (k *taker) one() api.Frame {
	f := api.Frame{Kind: k.num()}
	letters, known := table[f.Kind]
	begun := false
	switch {
	case f.Kind == 2:
		k.spans(&f)
	case f.Kind == 10 || f.Kind == 11 || f.Kind == 14 || f.Kind == 15:
		letters = "id"
		if begun = f.Kind > 11; begun {
			letters = "iod"
		}
		f.Fin = f.Kind%2 == 1
		f.Kind = 8
	case !known:
		panic(api.ErrKind)
	}
	for _, letter := range letters {
		if letter == 'd' {
			f.Data = k.data()
			continue
		}
		n := k.num()
		*place(&f, letter) = n
		if begun && letter == 'o' && n == 0 {
			panic(api.ErrForm)
		}
	}
	if !sum(f.Off, uint64(len(f.Data))) {
		panic(api.ErrRange)
	}
	return f
}

// parsed: what Parse has to answer.
func parsed(b []byte) (list []api.Frame, e api.Errno) {
	defer func() {
		if fault, ok := recover().(api.Errno); ok {
			list, e = nil, fault
		}
	}()
	k := taker{b: b}
	for k.at < len(b) {
		f := k.one()
		if f.Kind == 0 {
			continue
		}
		if list = append(list, f); len(list) > 64 {
			panic(api.ErrMany)
		}
	}
	return list, 0
}

// parses: Parse answers just these frames.
func parses(t *testing.T, b []byte, want ...api.Frame) {
	t.Helper()
	if got, e := Parse(b); e != api.OK || !slices.EqualFunc(got, want, same) {
		t.Fatalf("Parse(%x): %+v, error %d, not %+v", b, got, e, want)
	}
}

// fails: Parse answers the error, and no frame beside it.
func fails(t *testing.T, b []byte, want api.Errno) {
	t.Helper()
	if got, e := Parse(b); e != want || len(got) != 0 {
		t.Fatalf("Parse(%x): %+v, error %d, not %d", b, got, e, want)
	}
}

// asWanted: Parse answers what the model does.
func asWanted(t *testing.T, b []byte) {
	t.Helper()
	if want, e := parsed(b); e != api.OK {
		fails(t, b, e)
	} else {
		parses(t, b, want...)
	}
}

// encoded: a frame that is right, as bytes, by the chapter's table.
func encoded(f api.Frame) []byte {
	b, e := wanted(f)
	if e != api.OK {
		panic("not right")
	}
	return b
}

// forms: frames of each kind, of the STREAM and the ACK in each form.
func forms() []api.Frame {
	var list []api.Frame
	for _, kind := range kinds {
		list = append(list, simple(kind))
		if f := simple(kind); len(f.Data) > 0 {
			f.Data = nil
			list = append(list, f)
		}
	}
	return append(list,
		api.Frame{Kind: api.FStream, Id: 300, Data: []byte("abc")},
		api.Frame{Kind: api.FStream, Id: 300, Fin: true},
		api.Frame{Kind: api.FStream, Id: 300, Off: 1},
		api.Frame{Kind: api.FStream, Id: 1, Off: 1 << 40, Data: filled(64)},
		api.Frame{Kind: api.FAck, Acks: []api.Span{{Lo: 0, Hi: 0}}},
		api.Frame{Kind: api.FAck, N: 1 << 20, Acks: ladder(32, 0, 65, 1)},
		api.Frame{Kind: api.FAck, N: 1 << 20, Acks: ladder(7, 1<<50, 1, 66)},
		api.Frame{Kind: api.FReset, Id: greatest, Code: greatest, N: greatest},
	)
}

func TestNoBytes(t *testing.T) { // P11.2
	parses(t, nil)
	parses(t, []byte{})
	parses(t, make([]byte, 0, 9))
	for _, size := range []int{1, 2, 64, 65, 66, 1200, 5000} {
		parses(t, make([]byte, size))
	}
}

// TestCounts: of 64 frames, and 65, with paddings ahead of them, between and behind, which don't count.
func TestCounts(t *testing.T) { // P11.2
	if api.MaxFrames != 64 {
		t.Fatal("the greatest number of frames")
	}
	for _, f := range append(forms(), api.Frame{Kind: api.FPing}) {
		if f.Kind == api.FPadding {
			continue
		}
		for _, count := range []int{1, 2, 63, 64, 65, 66, 130} {
			for _, gaps := range [][3]int{{0, 0, 0}, {1, 0, 0}, {0, 1, 0}, {0, 0, 1}, {70, 0, 0}, {0, 3, 0}, {0, 0, 70}, {2, 2, 2}} {
				row := bytes.Join(slices.Repeat([][]byte{encoded(f)}, count), make([]byte, gaps[1]))
				b := slices.Concat(make([]byte, gaps[0]), row, make([]byte, gaps[2]))
				if count > 64 {
					fails(t, b, api.ErrMany)
				} else {
					parses(t, b, slices.Repeat([]api.Frame{f}, count)...)
				}
			}
		}
	}
}

// TestBehindTheLast: the 65th frame is looked at to its end, and nothing behind it.
func TestBehindTheLast(t *testing.T) { // P11.2, R2
	full := bytes.Repeat([]byte{1}, 64)
	for _, v := range []struct {
		text string
		e    api.Errno
	}{
		{"", api.OK},
		{"00", api.OK},
		{"03", api.ErrKind},
		{"40", api.ErrShort},
		{"10", api.ErrShort},
		{"0a 04 02 61", api.ErrShort},
		{"0e 04 00", api.ErrForm},
		{"1c 01 4801", api.ErrLong},
		{"02 00 00 20 00", api.ErrMany},
		{"02 00 00 00 01", api.ErrForm},
		{"06 ffffffffffffffff 01 61", api.ErrRange},
		{"01", api.ErrMany},
		{"01 03", api.ErrMany},
		{"01 40", api.ErrMany},
		{"01 06 ffffffffffffffff 01 61", api.ErrMany},
		{"10 05", api.ErrMany},
		{"06 fffffffffffffffe 01 61", api.ErrMany},
		{"00 00 01 00", api.ErrMany},
	} {
		for _, paddings := range []int{0, 1, 9} {
			b := slices.Concat(full, make([]byte, paddings), unhex(v.text))
			if v.e == api.OK {
				parses(t, b, slices.Repeat([]api.Frame{{Kind: api.FPing}}, 64)...)
			} else {
				fails(t, b, v.e)
			}
		}
	}
}

// TestInOrder: frames of all kinds one behind the other come in their order, each as it was.
func TestInOrder(t *testing.T) { // P11.2
	r := rand.New(rand.NewSource(4))
	for range 5000 {
		var b []byte
		var want []api.Frame
		for range r.Intn(65) {
			f := anyFrame(r)
			if len(f.Data) > 100 {
				f.Data = f.Data[:100]
			}
			b = append(b, encoded(f)...)
			if f.Kind != api.FPadding {
				want = append(want, plain(f))
			}
		}
		parses(t, b, want...)
	}
}

// TestLacks: of each kind bytes lack at each place.
func TestLacks(t *testing.T) { // P11.2
	for _, f := range forms() {
		whole := encoded(f)
		for cut := 1; cut < len(whole); cut++ {
			fails(t, whole[:cut], api.ErrShort)
			fails(t, slices.Concat([]byte{0, 1, 0}, whole[:cut]), api.ErrShort)
			fails(t, slices.Concat(whole, whole[:cut]), api.ErrShort)
		}
	}
	for first := 0x40; first < 0x100; first++ {
		fails(t, []byte{byte(first)}, api.ErrShort)
		fails(t, []byte{1, 0, byte(first)}, api.ErrShort)
	}
}

// TestLacksInLongNumbers: where a number is cut that is written in more bytes than need be.
func TestLacksInLongNumbers(t *testing.T) { // P11.2
	for _, f := range forms() {
		list := numbers(f)
		for at, n := range list {
			for _, size := range sizes(n) {
				for left := 1; left < size; left++ {
					fails(t, append(shorts(list[:at]...), written(n, size)[:left]...), api.ErrShort)
				}
			}
		}
	}
}

// TestOtherKinds: as they are written, in any size, with anything behind them.
func TestOtherKinds(t *testing.T) { // P11.2
	streams := []uint64{10, 11, 14, 15}
	for _, kind := range append(others(), 8) {
		if kind > greatest || slices.Contains(streams, kind) {
			continue
		}
		for _, size := range sizes(kind) {
			for _, behind := range [][]byte{nil, {0}, {1}, {4, 2, 0x61, 0x62}, {0xff}, filled(40)} {
				b := append(written(kind, size), behind...)
				fails(t, b, api.ErrKind)
				fails(t, append([]byte{0, 1, 0}, b...), api.ErrKind)
			}
		}
	}
}

// TestStreamKinds: of the eight kinds of streams only those that say how many bytes there are.
func TestStreamKinds(t *testing.T) { // P11.2
	off := api.Frame{Kind: api.FStream, Id: 4, Off: 2, Data: []byte("ab")}
	none := api.Frame{Kind: api.FStream, Id: 4, Data: []byte("ab")}
	fin := func(f api.Frame) api.Frame { f.Fin = true; return f }
	parses(t, unhex("0a 04 02 61 62"), none)
	parses(t, unhex("0b 04 02 61 62"), fin(none))
	parses(t, unhex("0e 04 02 02 61 62"), off)
	parses(t, unhex("0f 04 02 02 61 62"), fin(off))
	for _, kind := range []byte{8, 9, 12, 13} {
		fails(t, append([]byte{kind}, unhex("04 02 61 62")...), api.ErrKind)
		fails(t, append([]byte{kind}, unhex("04 02 02 61 62")...), api.ErrKind)
	}
}

// TestStreamOff: an Off that is written isn't 0, in whatever size; it is looked at ahead of what is behind it.
func TestStreamOff(t *testing.T) { // P11.2
	for _, kind := range []byte{14, 15} {
		for _, size := range []int{1, 2, 4, 8} {
			ahead := append([]byte{kind, 4}, written(0, size)...)
			for _, behind := range []string{"", "00", "01 61", "02 61", "40", "4801", "ffffffffffffffff", "00 03"} {
				fails(t, append(slices.Clone(ahead), unhex(behind)...), api.ErrForm)
			}
			for cut := 1; cut < len(ahead); cut++ {
				fails(t, ahead[:cut], api.ErrShort)
			}
			parses(t, slices.Concat([]byte{kind, 4}, written(1, size), []byte{0}), api.Frame{Kind: api.FStream, Id: 4, Off: 1, Fin: kind == 15})
		}
	}
}

// TestLengths: up to 2048, in whatever size; one above is told ahead of bytes that lack.
func TestLengths(t *testing.T) { // P11.2
	for _, f := range []api.Frame{
		{Kind: api.FCrypto}, {Kind: api.FCrypto, Off: 5}, {Kind: api.FStream, Id: 9}, {Kind: api.FStream, Id: 9, Off: 5, Fin: true}, {Kind: api.FClose, Code: 3},
	} {
		list := numbers(f)
		ahead := shorts(list[:len(list)-1]...)
		for _, n := range []uint64{0, 1, 2, 63, 64, 2046, 2047, 2048} {
			for _, size := range sizes(n) {
				f.Data = filled(int(n))
				b := slices.Concat(ahead, written(n, size), f.Data)
				parses(t, b, f)
				parses(t, append(b, 1), f, api.Frame{Kind: api.FPing})
				if n > 0 {
					fails(t, b[:len(b)-1], api.ErrShort)
					fails(t, b[:len(b)-int(n)], api.ErrShort)
				}
			}
		}
		for _, n := range []uint64{2049, 2050, 4096, 16383, 16384, 65536 + 1, 1 << 32, 1<<32 + 1, 1 << 61, greatest - 1, greatest} {
			for _, size := range sizes(n) {
				b := slices.Concat(ahead, written(n, size))
				fails(t, b, api.ErrLong)
				fails(t, append(b, make([]byte, min(n, 70000))...), api.ErrLong)
				fails(t, append(b, 3), api.ErrLong)
			}
		}
	}
}

// TestTooFar: a frame whose Off and length go to just the greatest number, and beyond; bytes that lack, and a length that is too great, are told ahead.
func TestTooFar(t *testing.T) { // P11.2, R2
	for _, ahead := range [][]byte{{6}, {14, 4}, {15, 4}} {
		for _, size := range []uint64{0, 1, 2, 63, 64, 2047, 2048} {
			for less := uint64(0); less <= size+1; less++ {
				b := slices.Concat(ahead, short(greatest-less), short(size), filled(int(size)))
				if got, e := Parse(b); less >= size && (e != api.OK || len(got) != 1 || got[0].Off != greatest-less || len(got[0].Data) != int(size)) {
					t.Fatalf("Parse(%x): %+v, error %d", b, got, e)
				}
				if less < size {
					fails(t, b, api.ErrRange)
					fails(t, append(b, 3), api.ErrRange)
					fails(t, b[:len(b)-1], api.ErrShort)
				}
			}
		}
		fails(t, slices.Concat(ahead, short(greatest), short(2049), filled(2049)), api.ErrLong)
		fails(t, slices.Concat(ahead, short(greatest), short(greatest)), api.ErrLong)
	}
}

// TestLongNumbers: in more bytes than need be, number by number and all at once.
func TestLongNumbers(t *testing.T) { // P11.2
	for _, f := range forms() {
		want := []api.Frame{f}
		if f.Kind == api.FPadding {
			want = nil
		}
		list := numbers(f)
		for _, wide := range []int{1, 2, 4, 8} {
			var all []byte
			for at, n := range list {
				long := written(n, max(wide, sizes(n)[0]))
				parses(t, slices.Concat(shorts(list[:at]...), long, shorts(list[at+1:]...), f.Data), want...)
				all = append(all, long...)
			}
			parses(t, append(all, f.Data...), want...)
		}
	}
}

// ackBytes: an ACK of these numbers.
func ackBytes(list ...uint64) []byte { return append([]byte{2}, shorts(list...)...) }

// TestAckCounts: up to 31 spans behind the first; more are told behind the first's length, ahead of whether it goes below 0.
func TestAckCounts(t *testing.T) { // P11.2, R2
	for more := range uint64(32) {
		list := append([]uint64{1000, 3, more, 0}, make([]uint64, 2*more)...)
		var acks []api.Span
		for i := range more + 1 {
			acks = append(acks, api.Span{Lo: 1000 - 2*i, Hi: 1000 - 2*i})
		}
		parses(t, ackBytes(list...), api.Frame{Kind: api.FAck, N: 3, Acks: acks})
		parses(t, append(ackBytes(list...), 1), api.Frame{Kind: api.FAck, N: 3, Acks: acks}, api.Frame{Kind: api.FPing})
		if more > 0 {
			fails(t, ackBytes(list[:len(list)-1]...), api.ErrShort)
			fails(t, ackBytes(list[:len(list)-2]...), api.ErrShort)
		}
	}
	for _, more := range []uint64{32, 33, 63, 64, 100, 16384, 1 << 32, 1<<61 + 1, greatest - 1, greatest} {
		fails(t, ackBytes(1000, 3, more), api.ErrShort)
		fails(t, append(ackBytes(1000, 3, more), 0x40), api.ErrShort)
		for _, length := range []uint64{0, 1, 1000, 1001, greatest} {
			fails(t, ackBytes(1000, 3, more, length), api.ErrMany)
			fails(t, append(ackBytes(1000, 3, more, length), make([]byte, 200)...), api.ErrMany)
		}
	}
}

// TestAckBelow: spans that end at just 0, and such as would go below it, told behind the number that leads there.
func TestAckBelow(t *testing.T) { // P11.2
	for _, v := range []struct {
		list []uint64
		e    api.Errno
	}{
		{[]uint64{0, 0, 0, 0}, api.OK},
		{[]uint64{7, 0, 0, 7}, api.OK},
		{[]uint64{7, 0, 0, 8}, api.ErrForm},
		{[]uint64{7, 0, 1, 8}, api.ErrForm},
		{[]uint64{7, 0, 31, 8}, api.ErrForm},
		{[]uint64{0, 0, 0, 1}, api.ErrForm},
		{[]uint64{0, 0, 0, greatest}, api.ErrForm},
		{[]uint64{greatest - 1, 0, 0, greatest}, api.ErrForm},
		{[]uint64{greatest, 0, 0, greatest}, api.OK},
		{[]uint64{greatest, 0, 1, greatest}, api.ErrShort},
		{[]uint64{greatest, 0, 1, greatest, 0}, api.ErrForm},
		{[]uint64{greatest, 0, 1, greatest - 1, 0}, api.ErrForm},
		{[]uint64{greatest, 0, 1, greatest - 2, 0, 0}, api.OK},
		{[]uint64{greatest, 0, 1, greatest - 2, 0, 1}, api.ErrForm},
		{[]uint64{greatest, 0, 1, 0, greatest - 2, 0}, api.OK},
		{[]uint64{greatest, 0, 1, 0, greatest - 1}, api.ErrForm},
		{[]uint64{greatest, 0, 1, 0, greatest}, api.ErrForm},
		{[]uint64{greatest, 0, 1, 0, 0, greatest - 2}, api.OK},
		{[]uint64{greatest, 0, 1, 0, 0, greatest - 1}, api.ErrForm},
		{[]uint64{greatest, 0, 1, 0, 0, greatest}, api.ErrForm},
		{[]uint64{7, 0, 1, 2, 1, 2}, api.OK},
		{[]uint64{7, 0, 1, 2, 1, 3}, api.ErrForm},
		{[]uint64{7, 0, 1, 2, 3, 0}, api.OK},
		{[]uint64{7, 0, 1, 2, 4}, api.ErrForm},
		{[]uint64{7, 0, 1, 2, 4, 0}, api.ErrForm},
		{[]uint64{7, 0, 1, 2, 5, 0}, api.ErrForm},
		{[]uint64{7, 0, 1, 2, greatest, 0}, api.ErrForm},
		{[]uint64{7, 0, 1, 7, 0, 0}, api.ErrForm},
		{[]uint64{7, 0, 1, 6, 0, 0}, api.ErrForm},
		{[]uint64{7, 0, 1, 5, 0, 0}, api.OK},
		{[]uint64{7, 0, 2, 2, 0, 0, 1, 0}, api.OK},
		{[]uint64{7, 0, 2, 2, 0, 0, 1, 1}, api.ErrForm},
		{[]uint64{7, 0, 2, 2, 0, 0, 2}, api.ErrForm},
		{[]uint64{7, 0, 2, 2, 0, 0}, api.ErrShort},
	} {
		b := ackBytes(v.list...)
		if _, e := parsed(b); e != v.e {
			t.Fatalf("%d: wanted error %d, not %d", v.list, e, v.e)
		}
		asWanted(t, b)
		asWanted(t, append([]byte{1, 0}, b...))
		if v.e != api.ErrShort {
			asWanted(t, append(b, 3))
			asWanted(t, append(b, 0x40))
			asWanted(t, append(b, 1))
		}
	}
}

// TestAckSmall: every ACK of up to three spans with small numbers, cut at each place.
func TestAckSmall(t *testing.T) { // P11.2
	counts := []int{9, 1, 3, 5, 3, 3, 3, 3}
	rows := 1
	for _, count := range counts {
		rows *= count
	}
	for row := range rows {
		b := []byte{2}
		for _, count := range counts {
			b = append(b, byte(row%count))
			row /= count
		}
		for cut := range len(b) + 1 {
			asWanted(t, b[:cut])
		}
	}
}

// TestFirstFault: of several faults the one that comes first in the bytes.
func TestFirstFault(t *testing.T) { // P11.2, R2
	faults := []struct {
		text string
		e    api.Errno
	}{
		{"03", api.ErrKind}, {"0e 04 00", api.ErrForm}, {"06 00 4801", api.ErrLong}, {"02 00 00 20 00", api.ErrMany}, {"02 00 00 00 01", api.ErrForm},
		{"06 ffffffffffffffff 01 61", api.ErrRange}, {"40", api.ErrShort}, {"08 04 00", api.ErrKind},
	}
	for _, one := range faults {
		for _, two := range faults {
			if one.e == api.ErrShort {
				continue
			}
			for _, f := range forms() {
				fails(t, slices.Concat(encoded(f), unhex(one.text), unhex(two.text)), one.e)
				fails(t, slices.Concat(unhex(one.text), unhex(two.text), encoded(f)), one.e)
				fails(t, slices.Concat(unhex(one.text), encoded(f), unhex(two.text)), one.e)
			}
		}
	}
}

// TestShortRows: every row of up to two bytes, and of four that mean something.
func TestShortRows(t *testing.T) { // P11.2, P1
	for one := range 256 {
		asWanted(t, []byte{byte(one)})
		for two := range 256 {
			asWanted(t, []byte{byte(one), byte(two)})
		}
	}
	means := []byte{0, 1, 2, 3, 4, 5, 6, 8, 9, 10, 11, 12, 14, 15, 16, 17, 18, 28, 30, 31, 32, 0x40, 0x48, 0x80, 0xff}
	for row := range len(means) * len(means) * len(means) * len(means) {
		var b []byte
		for rest := row; len(b) < 4; rest /= len(means) {
			b = append(b, means[rest%len(means)])
		}
		asWanted(t, b)
	}
}

// TestAnyBytes: by chance, and frames of which a bit is turned, or a byte is put, taken, or changed.
func TestAnyBytes(t *testing.T) { // P11.2, P1
	r := rand.New(rand.NewSource(5))
	for range 100000 {
		b := chance(r, r.Intn(40))
		for i := range b {
			if r.Intn(3) > 0 {
				b[i] >>= 3 + r.Intn(4)
			}
		}
		asWanted(t, b)
	}
	list := forms()
	for range 100000 {
		var b []byte
		for range 1 + r.Intn(4) {
			b = append(b, encoded(list[r.Intn(len(list))])...)
		}
		for range r.Intn(3) {
			at := r.Intn(len(b))
			switch r.Intn(4) {
			case 0:
				b[at] ^= 1 << r.Intn(8)
			case 1:
				b = slices.Insert(b, at, byte(r.Intn(256)))
			case 2:
				b = append(slices.Delete(b, at, at+1), 0)
			case 3:
				b[at] = byte(r.Intn(256))
			}
		}
		asWanted(t, b[:len(b)-r.Intn(2)*r.Intn(len(b))])
	}
}

// TestManyBytes: an answer comes of many bytes, too.
func TestManyBytes(t *testing.T) { // P11.2, P1
	for _, one := range []byte{0, 1, 2, 6, 8, 10, 14, 28, 64, 128, 255} {
		asWanted(t, bytes.Repeat([]byte{one}, 100000))
	}
	parses(t, append(make([]byte, 1<<20), 1), api.Frame{Kind: api.FPing})
}

// TestParsedAgain: what was parsed is encoded to bytes that are parsed to the same.
func TestParsedAgain(t *testing.T) { // P11.1, P11.2
	r := rand.New(rand.NewSource(6))
	for range 100000 {
		b := chance(r, 1+r.Intn(30))
		b[0] = byte(kinds[r.Intn(len(kinds))])
		if b[0] == api.FStream {
			b[0] |= []byte{2, 3, 6, 7}[r.Intn(4)]
		}
		list, e := Parse(b)
		if e != api.OK {
			continue
		}
		var all []byte
		for _, f := range list {
			one, e := Encode(f)
			if e != api.OK {
				t.Fatalf("Encode(%+v): error %d", f, e)
			}
			all = append(all, one...)
		}
		parses(t, all, list...)
		if len(all) > len(b) {
			t.Fatalf("%x is encoded longer: %x", b, all)
		}
	}
}

// TestBytesStay: what is handed to Parse stays as it was, what stands about it and its spare room too, whatever is done with the answer; and the answer stays, whatever is done with that.
func TestBytesStay(t *testing.T) { // P11.2, R6
	r := rand.New(rand.NewSource(7))
	list := forms()
	for range 3000 {
		var all []byte
		for range r.Intn(30) {
			all = append(all, encoded(list[r.Intn(len(list))])...)
		}
		want, e := parsed(slices.Clone(all))
		if e != api.OK {
			t.Fatal(e)
		}
		b, asItWas := watch(all, 0xee)
		parses(t, b, want...)
		got, _ := Parse(b)
		other, _ := Parse(b)
		for _, f := range got {
			overwrite(f.Data)
			clear(f.Acks[:cap(f.Acks)])
		}
		clear(got[:cap(got)])
		if !asItWas() {
			t.Fatalf("Parse(%x) changed what it was given, or answers it", all)
		}
		overwrite(b)
		for i, f := range other {
			if !same(f, want[i]) {
				t.Fatalf("Parse(%x) answers what it was given, or what it answered before: %+v", all, f)
			}
		}
	}
}

// TestListsApart: no two lists of an answer share memory, their spare room neither.
func TestListsApart(t *testing.T) { // P11.2, R6
	var b []byte
	for _, f := range forms() {
		b = append(b, encoded(f)...)
	}
	want, e := parsed(b)
	if e != api.OK {
		t.Fatal(e)
	}
	got, _ := Parse(b)
	for i := range got {
		if !slices.EqualFunc(got[i:], want[i:], same) {
			t.Fatalf("a frame ahead of frame %d shares memory with one behind it", i)
		}
		overwrite(got[i].Data)
		acks := got[i].Acks[:cap(got[i].Acks)]
		for at := range acks {
			acks[at] = api.Span{Lo: math.MaxUint64}
		}
	}
	got, _ = Parse(b)
	for i := len(got) - 1; i >= 0; i-- {
		if !slices.EqualFunc(got[:i+1], want[:i+1], same) {
			t.Fatalf("a frame behind frame %d shares memory with one ahead of it", i)
		}
		overwrite(got[i].Data)
		acks := got[i].Acks[:cap(got[i].Acks)]
		for at := range acks {
			acks[at] = api.Span{Lo: math.MaxUint64}
		}
	}
}
