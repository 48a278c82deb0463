package varint

import (
	"bytes"
	"encoding/binary"
	"encoding/hex"
	"math"
	"math/rand"
	"slices"
	"sync"
	"testing"

	"skiff/api"
)

// unhex: the bytes that a text of base sixteen tells.
func unhex(text string) []byte {
	b, err := hex.DecodeString(text)
	if err != nil {
		panic(err)
	}
	return b
}

// filled: so many bytes of all bits.
func filled(n int) []byte { return bytes.Repeat([]byte{0xff}, n) }

// chance: so many bytes by chance.
func chance(r *rand.Rand, n int) []byte {
	b := make([]byte, n)
	r.Read(b)
	return b
}

// written: a number in a size, by the library.
func written(n uint64, size int) []byte {
	switch size {
	case 1:
		return []byte{byte(n)}
	case 2:
		return binary.BigEndian.AppendUint16(nil, uint16(n)|0x4000)
	case 4:
		return binary.BigEndian.AppendUint32(nil, uint32(n)|0x80000000)
	}
	return binary.BigEndian.AppendUint64(nil, n|0xc000000000000000)
}

// sizes: all of them.
var sizes = []int{1, 2, 4, 8}

// fits: whether a number may be written in a size.
func fits(n uint64, size int) bool {
	switch size {
	case 1:
		return n <= 63
	case 2:
		return n <= 16383
	case 4:
		return n <= 1073741823
	}
	return n <= 4611686018427387903
}

// shortest: a number in as few bytes as may be.
func shortest(n uint64) []byte {
	for _, size := range sizes {
		if fits(n, size) {
			return written(n, size)
		}
	}
	panic("too great")
}

// limits: the least and the greatest number of each size, and those beside them.
var limits = []uint64{
	0, 1, 2, 37, 62, 63,
	64, 65, 255, 256, 257, 15293, 16382, 16383,
	16384, 16385, 65535, 65536, 1<<24 - 1, 1 << 24, 494878333, 1073741822, 1073741823,
	1073741824, 1073741825, 1<<32 - 1, 1 << 32, 1 << 40, 1<<56 - 1, 1 << 56, 1<<61 - 1, 1 << 61, 151288809941952652, 4611686018427387902, 4611686018427387903,
}

// beyond: numbers that are too great.
var beyond = []uint64{4611686018427387904, 4611686018427387905, 4611686018427387904 + 37, 1<<63 - 1, 1 << 63, 1<<63 + 1, 3 << 62, math.MaxUint64 - 1, math.MaxUint64}

// number: one by chance, of as many bits as chance has it.
func number(r *rand.Rand) uint64 { return r.Uint64() >> (2 + r.Intn(62)) }

// puts: behind some bytes the numbers are put just as they should be.
func puts(t *testing.T, b []byte, list ...uint64) {
	t.Helper()
	want := slices.Clone(b)
	for _, n := range list {
		want = append(want, shortest(n)...)
	}
	if got, e := Put(b, list...); e != api.OK || !bytes.Equal(got, want) {
		t.Fatalf("Put(%x, %d): %x, error %d, not %x", b, list, got, e, want)
	}
}

// outOfRange: the numbers are refused, and nothing is answered beside.
func outOfRange(t *testing.T, b []byte, list ...uint64) {
	t.Helper()
	if got, e := Put(b, list...); e != api.ErrRange || len(got) != 0 {
		t.Fatalf("Put(%x, %d): %x, error %d", b, list, got, e)
	}
}

// TestExamples: the chapter's, and what RFC 9000 tells beside them.
func TestExamples(t *testing.T) { // P10.1, P10.2
	for _, v := range []struct {
		n    uint64
		text string
	}{
		{37, "25"}, {15293, "7bbd"}, {494878333, "9d7f3e7d"}, {151288809941952652, "c2197c5eff14e88c"},
		{0, "00"}, {63, "3f"}, {64, "4040"}, {16383, "7fff"}, {16384, "80004000"}, {1073741823, "bfffffff"},
		{1073741824, "c000000040000000"}, {4611686018427387903, "ffffffffffffffff"},
	} {
		if got, e := Put(nil, v.n); e != api.OK || !bytes.Equal(got, unhex(v.text)) {
			t.Errorf("Put(%d): %x, error %d, not %s", v.n, got, e, v.text)
		}
		r := New(unhex(v.text))
		if n, e := r.Num(), r.End(); n != v.n || e != api.OK {
			t.Errorf("Num of %s: %d, error %d", v.text, n, e)
		}
	}
	r := New(unhex("4025"))
	if n, e := r.Num(), r.End(); n != 37 || e != api.OK {
		t.Errorf("Num of 37 in two bytes: %d, error %d", n, e)
	}
}

func TestPutLimits(t *testing.T) { // P10.1
	if limits[len(limits)-1] != api.MaxVar || beyond[0] != api.MaxVar+1 {
		t.Fatal("the greatest number")
	}
	for _, n := range limits {
		puts(t, nil, n)
		puts(t, []byte{}, n)
		puts(t, []byte{0xff, 0}, n)
		for _, m := range limits {
			puts(t, nil, n, m)
			puts(t, []byte{1}, n, m, n)
		}
	}
	puts(t, nil, limits...)
	puts(t, []byte("ahead"), limits...)
}

// TestPutPowers: every power of two, and what is about it.
func TestPutPowers(t *testing.T) { // P10.1
	for at := range 62 {
		power := uint64(1) << at
		puts(t, nil, power-1, power, power+1)
		puts(t, nil, 2*power-1)
		puts(t, nil, api.MaxVar-power)
	}
}

// TestPutSmall: every number that has room in two bytes, and some more.
func TestPutSmall(t *testing.T) { // P10.1
	for n := range uint64(17000) {
		puts(t, nil, n)
	}
}

func TestPutByChance(t *testing.T) { // P10.1
	r := rand.New(rand.NewSource(1))
	for range 20000 {
		var list []uint64
		for range r.Intn(12) {
			list = append(list, number(r))
		}
		puts(t, chance(r, r.Intn(20)), list...)
	}
}

func TestPutMany(t *testing.T) { // P10.1
	r := rand.New(rand.NewSource(2))
	list := make([]uint64, 1<<17)
	for i := range list {
		list[i] = number(r)
	}
	puts(t, nil, list...)
	puts(t, chance(r, 1<<17), list...)
	list[len(list)-1] = api.MaxVar + 1
	outOfRange(t, nil, list...)
}

// TestPutNone: without a number there are the bytes ahead alone.
func TestPutNone(t *testing.T) { // P10.1, R5
	r := rand.New(rand.NewSource(3))
	for _, b := range [][]byte{nil, {}, make([]byte, 0, 9), {0}, {0xff, 0xff}, chance(r, 1200)} {
		puts(t, b)
		puts(t, b, nil...)
		puts(t, b, []uint64{}...)
	}
}

// TestPutBeyond: numbers that are too great, alone and amid others, wherever they stand.
func TestPutBeyond(t *testing.T) { // P10.1, R3
	for _, n := range beyond {
		for _, b := range [][]byte{nil, {}, make([]byte, 0, 30), []byte("ahead")} {
			outOfRange(t, b, n)
			outOfRange(t, b, n, n)
			for _, m := range limits {
				outOfRange(t, b, n, m)
				outOfRange(t, b, m, n)
				outOfRange(t, b, m, n, m)
			}
			for at := range len(limits) + 1 {
				outOfRange(t, b, slices.Insert(slices.Clone(limits), at, n)...)
			}
		}
	}
	for at := range 62 {
		outOfRange(t, nil, 1<<62|1<<at)
		outOfRange(t, nil, 1<<63|1<<at)
	}
	r := rand.New(rand.NewSource(4))
	for range 2000 {
		outOfRange(t, nil, number(r), r.Uint64()|1<<(62+r.Intn(2)), number(r))
	}
}

// TestPutStepByStep: numbers put one by one, each behind what has come, are those put at once.
func TestPutStepByStep(t *testing.T) { // P10.1
	r := rand.New(rand.NewSource(5))
	var b []byte
	var list []uint64
	for range 500 {
		list = append(list, number(r))
		once, e := Put(nil, list...)
		if e != api.OK {
			t.Fatal(e)
		}
		if b, e = Put(b, list[len(list)-1]); e != api.OK || !bytes.Equal(b, once) {
			t.Fatalf("%x, error %d, at once %x", b, e, once)
		}
	}
}

// spare is what stands around watched bytes.
const spare = 24

// watched: the bytes with something ahead of them and behind them, in memory of their own, and whether all is as it was.
func watched(r *rand.Rand, b []byte) ([]byte, func() bool) {
	whole := slices.Concat(chance(r, spare), b, chance(r, spare))
	before := slices.Clone(whole)
	return whole[spare : spare+len(b)], func() bool { return bytes.Equal(whole, before) }
}

// overwrite: every byte another one, those in the spare room too.
func overwrite(b []byte) {
	b = b[:cap(b)]
	for i := range b {
		b[i] = ^b[i]
	}
}

// TestPutArgumentsStay: bytes ahead stay as they were, what stands around them and their spare room too, and so do the numbers.
func TestPutArgumentsStay(t *testing.T) { // P10.1, R6
	r := rand.New(rand.NewSource(6))
	for length := range 40 {
		b, same := watched(r, chance(r, length))
		whole := slices.Concat([]uint64{1, 1 << 63}, limits, []uint64{3, 1 << 62})
		before := slices.Clone(whole)
		list := whole[2 : 2+len(limits)]
		for at := range list {
			puts(t, b, list[:at]...)
			puts(t, b, list[at])
		}
		outOfRange(t, b, whole...)
		outOfRange(t, b, whole[2:]...)
		if !same() {
			t.Fatalf("of %d bytes ahead or those around them some are changed", length)
		}
		if !slices.Equal(whole, before) {
			t.Fatal("the numbers are changed")
		}
	}
}

// TestPutNewMemory: what is answered shares nothing with what was handed in, nor with another answer.
func TestPutNewMemory(t *testing.T) { // P10.1, R6
	r := rand.New(rand.NewSource(7))
	for length := range 40 {
		for count := range 4 {
			b, same := watched(r, chance(r, length))
			list := limits[:count]
			got, _ := Put(b, list...)
			other, _ := Put(b, list...)
			want := slices.Clone(other)
			overwrite(got)
			if !same() {
				t.Fatalf("%d bytes ahead of %d numbers are the answer's own", length, count)
			}
			if !bytes.Equal(other, want) {
				t.Fatal("two answers share memory")
			}
			overwrite(b)
			if !bytes.Equal(other, want) {
				t.Fatalf("%d bytes ahead of %d numbers are kept", length, count)
			}
		}
	}
}

// TestPutBehindOne: two lists put behind the same answer don't meet in its spare room.
func TestPutBehindOne(t *testing.T) { // P10.1, R6
	base, _ := Put(make([]byte, 3, 100), 5)
	base = append(base, 1)[:len(base)]
	one, _ := Put(base, 1, 70, 1<<20)
	two, _ := Put(base, 1<<40, 2)
	if want := unhex("0000000501404680100000"); !bytes.Equal(one, want) {
		t.Errorf("%x, not %x", one, want)
	}
	if want := unhex("00000005c00001000000000002"); !bytes.Equal(two, want) {
		t.Errorf("%x, not %x", two, want)
	}
}

// model is a reader by the chapter's words: all bytes, how many are taken, the first fault.
type model struct {
	all   []byte
	at    int
	fault api.Errno
}

func (m *model) left() int { return len(m.all) - m.at }

func (m *model) fail(code api.Errno) {
	if m.fault == 0 {
		m.fault = code
	}
}

func (m *model) bytes(n uint64) []byte {
	if m.fault != 0 {
		return nil
	}
	if uint64(m.left()) < n {
		m.fault = api.ErrShort
		return nil
	}
	m.at += int(n)
	return m.all[m.at-int(n) : m.at]
}

func (m *model) byte() byte {
	if b := m.bytes(1); len(b) == 1 {
		return b[0]
	}
	return 0
}

func (m *model) num() uint64 {
	if m.left() == 0 {
		m.fail(api.ErrShort)
		return 0
	}
	switch first := m.all[m.at]; {
	case first < 0x40:
		return uint64(m.byte())
	case first < 0x80:
		if b := m.bytes(2); len(b) == 2 {
			return uint64(binary.BigEndian.Uint16(b)) - 0x4000
		}
	case first < 0xc0:
		if b := m.bytes(4); len(b) == 4 {
			return uint64(binary.BigEndian.Uint32(b)) - 0x80000000
		}
	default:
		if b := m.bytes(8); len(b) == 8 {
			return binary.BigEndian.Uint64(b) - 0xc000000000000000
		}
	}
	return 0
}

func (m *model) end() api.Errno {
	if m.left() != 0 {
		m.fail(api.ErrRest)
	}
	return m.fault
}

// both is a reader, and the model that it is held against.
type both struct {
	t *testing.T
	r *Reader
	m *model
}

// open: both, of the same bytes.
func open(t *testing.T, b []byte) both {
	t.Helper()
	out := both{t, New(b), &model{all: slices.Clone(b)}}
	out.same("New")
	return out
}

// same: how many bytes are left, and the fault.
func (b both) same(what string) {
	b.t.Helper()
	if b.r.Left() != b.m.left() || b.r.Code() != b.m.fault {
		b.t.Fatalf("%x behind %s: %d left, error %d, not %d, error %d", b.m.all, what, b.r.Left(), b.r.Code(), b.m.left(), b.m.fault)
	}
}

// bytes: Bytes of both.
func (b both) bytes(n uint64) {
	b.t.Helper()
	if got, want := b.r.Bytes(n), b.m.bytes(n); !bytes.Equal(got, want) {
		b.t.Fatalf("%x: Bytes(%d): %x, not %x", b.m.all, n, got, want)
	}
	b.same("Bytes")
}

// byte: Byte of both.
func (b both) byte() {
	b.t.Helper()
	if got, want := b.r.Byte(), b.m.byte(); got != want {
		b.t.Fatalf("%x: Byte: %x, not %x", b.m.all, got, want)
	}
	b.same("Byte")
}

// num: Num of both.
func (b both) num() {
	b.t.Helper()
	if got, want := b.r.Num(), b.m.num(); got != want {
		b.t.Fatalf("%x: Num: %d, not %d", b.m.all, got, want)
	}
	b.same("Num")
}

// fail: Fail of both.
func (b both) fail(code api.Errno) {
	b.t.Helper()
	b.r.Fail(code)
	b.m.fail(code)
	b.same("Fail")
}

// end: End of both.
func (b both) end() {
	b.t.Helper()
	if got, want := b.r.End(), b.m.end(); got != want {
		b.t.Fatalf("%x: End: error %d, not %d", b.m.all, got, want)
	}
	b.same("End")
}

// all: every call that takes, asks or fails, one behind the other.
func (b both) all() {
	b.t.Helper()
	b.num()
	b.byte()
	b.bytes(0)
	b.bytes(1)
	b.bytes(math.MaxUint64)
	b.num()
	b.fail(api.ErrKind)
	b.end()
	b.byte()
	b.end()
}

// tooShort: behind a call that lacked bytes ErrShort is the fault, none is taken, and whatever is called then nothing comes.
func tooShort(t *testing.T, r *Reader, left int) {
	t.Helper()
	for range 2 {
		if r.Left() != left || r.Code() != api.ErrShort {
			t.Fatalf("%d left, error %d, not %d", r.Left(), r.Code(), left)
		}
		if got := r.Bytes(0); len(got) != 0 {
			t.Fatalf("Bytes(0): %x", got)
		}
		if got := r.Bytes(1); len(got) != 0 {
			t.Fatalf("Bytes(1): %x", got)
		}
		if got := r.Byte(); got != 0 {
			t.Fatalf("Byte: %x", got)
		}
		if got := r.Num(); got != 0 {
			t.Fatalf("Num: %d", got)
		}
		r.Fail(api.ErrForm)
		if e := r.End(); e != api.ErrShort {
			t.Fatalf("End: error %d", e)
		}
	}
}

// TestNumSizes: numbers in each size in which they have room, as short as may be or longer.
func TestNumSizes(t *testing.T) { // P10.2
	r := rand.New(rand.NewSource(8))
	list := slices.Clone(limits)
	for range 2000 {
		list = append(list, number(r))
	}
	for _, n := range list {
		for _, size := range sizes {
			if !fits(n, size) {
				continue
			}
			for behind := range 3 {
				r := New(append(written(n, size), filled(behind)...))
				if got := r.Num(); got != n || r.Left() != behind || r.Code() != api.OK {
					t.Fatalf("Num of %d in %d bytes: %d, %d left, error %d", n, size, got, r.Left(), r.Code())
				}
			}
		}
	}
}

// TestNumLacks: of a number whose bytes lack none is taken, wherever it ends.
func TestNumLacks(t *testing.T) { // P10.2
	for _, n := range limits {
		for _, size := range sizes {
			for cut := range size {
				b := written(n&63, size)[:cut]
				r := New(b)
				if got := r.Num(); got != 0 {
					t.Fatalf("Num of %x: %d", b, got)
				}
				tooShort(t, r, cut)
				r = New(append(shortest(n), b...))
				if got := r.Num(); got != n {
					t.Fatalf("Num: %d, not %d", got, n)
				}
				if got := r.Num(); got != 0 {
					t.Fatalf("Num of %x: %d", b, got)
				}
				tooShort(t, r, cut)
			}
		}
	}
}

// TestNumFirstBytes: every first byte, with each number of bytes behind it.
func TestNumFirstBytes(t *testing.T) { // P10.2
	r := rand.New(rand.NewSource(9))
	for first := range 256 {
		for behind := range 12 {
			for _, rest := range [][]byte{make([]byte, behind), filled(behind), chance(r, behind)} {
				b := open(t, append([]byte{byte(first)}, rest...))
				b.num()
				b.all()
			}
		}
	}
	b := open(t, nil)
	b.num()
	b.all()
}

// TestReadWhatWasPut: numbers come back in their order, and then there is nothing.
func TestReadWhatWasPut(t *testing.T) { // P10.1, P10.2
	r := rand.New(rand.NewSource(10))
	for range 3000 {
		ahead := chance(r, r.Intn(9))
		list := make([]uint64, r.Intn(30))
		for i := range list {
			list[i] = number(r)
		}
		b, e := Put(ahead, list...)
		if e != api.OK {
			t.Fatal(e)
		}
		reader := New(b)
		if got := reader.Bytes(uint64(len(ahead))); !bytes.Equal(got, ahead) {
			t.Fatalf("Bytes: %x, not %x", got, ahead)
		}
		for _, want := range list {
			if got := reader.Num(); got != want {
				t.Fatalf("Num: %d, not %d", got, want)
			}
		}
		if reader.Left() != 0 || reader.End() != api.OK || reader.End() != api.OK {
			t.Fatalf("%d left, error %d", reader.Left(), reader.Code())
		}
		if reader.Num() != 0 {
			t.Fatal("a number behind the last one")
		}
		tooShort(t, reader, 0)
	}
}

// TestBytes: none, just what is left, one more, the greatest number, from each place on.
func TestBytes(t *testing.T) { // P10.2
	r := rand.New(rand.NewSource(11))
	for length := range 40 {
		all := chance(r, length)
		for at := range length + 1 {
			from := func() *Reader {
				r := New(all)
				if got := r.Bytes(uint64(at)); !bytes.Equal(got, all[:at]) || r.Left() != length-at || r.Code() != api.OK {
					t.Fatalf("Bytes(%d) of %x: %x, %d left, error %d", at, all, got, r.Left(), r.Code())
				}
				return r
			}
			none := from()
			for range 3 {
				if got := none.Bytes(0); len(got) != 0 || none.Left() != length-at || none.Code() != api.OK {
					t.Fatalf("Bytes(0): %x, %d left, error %d", got, none.Left(), none.Code())
				}
			}
			rest := from()
			if got := rest.Bytes(uint64(length - at)); !bytes.Equal(got, all[at:]) || rest.Left() != 0 || rest.End() != api.OK {
				t.Fatalf("Bytes of the rest: %x, %d left, error %d", got, rest.Left(), rest.Code())
			}
			left := uint64(length - at)
			for _, n := range []uint64{left + 1, left + 2, left + 256, left + 1<<32, 1 << 31, 1 << 32, api.MaxVar, 1<<63 - 1, 1 << 63, 1<<63 + left, math.MaxUint64 - left, math.MaxUint64} {
				more := from()
				if got := more.Bytes(n); len(got) != 0 {
					t.Fatalf("Bytes(%d): %x", n, got)
				}
				tooShort(t, more, length-at)
			}
		}
	}
}

func TestByte(t *testing.T) { // P10.2
	r := rand.New(rand.NewSource(12))
	all := append(chance(r, 300), 0, 255)
	reader := New(all)
	for i, want := range all {
		if got := reader.Byte(); got != want || reader.Left() != len(all)-1-i || reader.Code() != api.OK {
			t.Fatalf("Byte: %x, %d left, error %d, not %x", got, reader.Left(), reader.Code(), want)
		}
	}
	if got := reader.Byte(); got != 0 {
		t.Fatalf("Byte: %x", got)
	}
	tooShort(t, reader, 0)
}

// codes: faults that may be told, such as the document names, and others.
var codes = []api.Errno{api.ErrNil, api.ErrRange, api.ErrShort, api.ErrRest, api.ErrForm, api.ErrKind, api.ErrLimit, 14, 1000, -1, math.MaxInt, math.MinInt}

// TestFail: with OK nothing happens; of others the first stays, with bytes left or none.
func TestFail(t *testing.T) { // P10.2
	for _, all := range [][]byte{nil, {}, {7}, {1, 2, 3}, {0xc0}} {
		for _, code := range codes {
			r := New(all)
			for range 2 {
				r.Fail(api.OK)
				if r.Code() != api.OK || r.Left() != len(all) {
					t.Fatalf("Fail(OK): error %d, %d left", r.Code(), r.Left())
				}
			}
			r.Fail(code)
			for _, other := range append(codes, api.OK) {
				r.Fail(other)
				if r.Code() != code || r.Left() != len(all) {
					t.Fatalf("error %d, not %d, %d left", r.Code(), code, r.Left())
				}
			}
			if got := r.Bytes(0); len(got) != 0 {
				t.Fatalf("Bytes(0): %x", got)
			}
			if got := r.Bytes(1); len(got) != 0 {
				t.Fatalf("Bytes(1): %x", got)
			}
			if one, n := r.Byte(), r.Num(); one != 0 || n != 0 {
				t.Fatalf("Byte: %x, Num: %d", one, n)
			}
			if e := r.End(); e != code || r.Code() != code || r.Left() != len(all) {
				t.Fatalf("End: error %d, not %d, %d left", e, code, r.Left())
			}
		}
	}
}

// TestFailWithOK: what comes behind it is taken as if it hadn't been called.
func TestFailWithOK(t *testing.T) { // P10.2
	r := New([]byte{5, 0x40, 0x25, 1, 2})
	r.Fail(api.OK)
	one := r.Byte()
	r.Fail(api.OK)
	n := r.Num()
	r.Fail(api.OK)
	two := r.Bytes(2)
	r.Fail(api.OK)
	if e := r.End(); one != 5 || n != 37 || !bytes.Equal(two, []byte{1, 2}) || e != api.OK {
		t.Errorf("%d, %d, %x, error %d", one, n, two, e)
	}
}

// TestFailBehindEnd: ErrRest stays; where there was none, the fault does.
func TestFailBehindEnd(t *testing.T) { // P10.2
	for _, code := range append(codes, api.OK) {
		r := New([]byte{1})
		if e := r.End(); e != api.ErrRest {
			t.Fatalf("End: error %d", e)
		}
		r.Fail(code)
		if r.Code() != api.ErrRest || r.End() != api.ErrRest {
			t.Fatalf("error %d", r.Code())
		}
		r = New(nil)
		if e := r.End(); e != api.OK {
			t.Fatalf("End: error %d", e)
		}
		r.Fail(code)
		if r.Code() != code || r.End() != code {
			t.Fatalf("error %d, not %d", r.Code(), code)
		}
	}
}

// TestEnd: with bytes left, and with none; once and twice; then nothing is taken any more where some are left.
func TestEnd(t *testing.T) { // P10.2
	for left := range 12 {
		r := New(append([]byte{0x40, 0x41}, make([]byte, left)...))
		if n := r.Num(); n != 65 || r.Code() != api.OK {
			t.Fatalf("Num: %d, error %d", n, r.Code())
		}
		want := api.OK
		if left > 0 {
			want = api.ErrRest
		}
		for range 3 {
			if e := r.End(); e != want || r.Code() != want || r.Left() != left {
				t.Fatalf("End: error %d, then %d, not %d; %d left, not %d", e, r.Code(), want, r.Left(), left)
			}
			if got := r.Bytes(0); len(got) != 0 {
				t.Fatalf("Bytes(0): %x", got)
			}
		}
		if left == 0 {
			if got := r.Byte(); got != 0 {
				t.Fatalf("Byte: %x", got)
			}
			tooShort(t, r, 0)
		}
	}
	b := []byte{9, 9, 9}
	r := New(b)
	r.End()
	if one, n, some := r.Byte(), r.Num(), r.Bytes(2); one != 0 || n != 0 || len(some) != 0 || r.Left() != 3 || r.Code() != api.ErrRest {
		t.Fatalf("behind End: %d, %d, %x, %d left, error %d", one, n, some, r.Left(), r.Code())
	}
}

// TestEndBehindShort: the first fault stays, though bytes are left.
func TestEndBehindShort(t *testing.T) { // P10.2
	r := New([]byte{0x80, 1, 2})
	if n, e := r.Num(), r.End(); n != 0 || e != api.ErrShort || r.Left() != 3 {
		t.Errorf("Num: %d, End: error %d, %d left", n, e, r.Left())
	}
	r = New([]byte{1, 2})
	if some, e := r.Bytes(3), r.End(); len(some) != 0 || e != api.ErrShort || r.Left() != 2 {
		t.Errorf("Bytes: %x, End: error %d, %d left", some, e, r.Left())
	}
}

// step: one of the calls.
func step(b both, which int) {
	b.t.Helper()
	switch which {
	case 0:
		b.num()
	case 1:
		b.byte()
	case 2:
		b.bytes(0)
	case 3:
		b.bytes(2)
	case 4:
		b.bytes(uint64(b.m.left()))
	case 5:
		b.bytes(uint64(b.m.left()) + 1)
	case 6:
		b.bytes(math.MaxUint64)
	case 7:
		b.fail(api.OK)
	case 8:
		b.fail(api.ErrForm)
	case 9:
		b.end()
	}
}

// TestAnyOrder: every row of four calls, over bytes that end at each place.
func TestAnyOrder(t *testing.T) { // P10.2, P1
	const kinds = 10
	whole := unhex("05" + "4025" + "80000007" + "c000000000000009" + "3f")
	var list [][]byte
	for cut := range whole {
		list = append(list, whole[:cut], whole[cut:])
	}
	list = append(list, unhex("4000"), unhex("80ff"), unhex("c0ffffffffffff"), unhex("ffffffffffffffff01"))
	for _, all := range list {
		for row := range kinds * kinds * kinds * kinds {
			b := open(t, all)
			for ; row > 0; row /= kinds {
				step(b, row%kinds)
			}
			b.all()
		}
	}
}

// TestAnyOrderByChance: many calls over many bytes.
func TestAnyOrderByChance(t *testing.T) { // P10.2, P1
	r := rand.New(rand.NewSource(13))
	for range 20000 {
		b := open(t, chance(r, r.Intn(60)))
		for range r.Intn(30) {
			switch r.Intn(12) {
			case 0, 1, 2, 3:
				b.num()
			case 4, 5, 6:
				b.byte()
			case 7, 8:
				b.bytes(uint64(r.Intn(10)))
			case 9:
				b.bytes(uint64(r.Intn(b.m.left() + 2)))
			case 10:
				b.fail(codes[r.Intn(len(codes))] * api.Errno(r.Intn(2)))
			case 11:
				if r.Intn(4) == 0 {
					b.end()
				}
			}
		}
		b.all()
	}
}

// TestNil: a nil reader does nothing.
func TestNil(t *testing.T) { // P10.2, R7
	var r *Reader
	for range 2 {
		if e := r.Code(); e != api.ErrNil {
			t.Errorf("Code: error %d", e)
		}
		if e := r.End(); e != api.ErrNil {
			t.Errorf("End: error %d", e)
		}
		for _, n := range []uint64{0, 1, 8, math.MaxUint64} {
			if got := r.Bytes(n); len(got) != 0 {
				t.Errorf("Bytes(%d): %x", n, got)
			}
		}
		if one, n, left := r.Byte(), r.Num(), r.Left(); one != 0 || n != 0 || left != 0 {
			t.Errorf("Byte: %x, Num: %d, Left: %d", one, n, left)
		}
		for _, code := range append(codes, api.OK) {
			r.Fail(code)
		}
	}
}

// TestNothing: of no bytes there is a reader all the same, as there is where New wasn't called.
func TestNothing(t *testing.T) { // P10.2, P1, R5
	for _, reader := range []func() *Reader{
		func() *Reader { return New(nil) },
		func() *Reader { return New([]byte{}) },
		func() *Reader { return New([]byte{1, 2}[:0]) },
		func() *Reader { return new(Reader) },
	} {
		r := reader()
		if r == nil || r.Left() != 0 || r.Code() != api.OK || len(r.Bytes(0)) != 0 || r.End() != api.OK {
			t.Fatal("of no bytes")
		}
		r = reader()
		if one := r.Byte(); one != 0 {
			t.Fatalf("Byte: %x", one)
		}
		tooShort(t, r, 0)
		r = reader()
		if n := r.Num(); n != 0 {
			t.Fatalf("Num: %d", n)
		}
		tooShort(t, r, 0)
		r = reader()
		if some := r.Bytes(1); len(some) != 0 {
			t.Fatalf("Bytes(1): %x", some)
		}
		tooShort(t, r, 0)
	}
}

// TestReaderArgumentStays: what is handed to New is as it was, what stands around it and its spare room too, whatever is read and done with it.
func TestReaderArgumentStays(t *testing.T) { // P10.2, R6
	r := rand.New(rand.NewSource(14))
	for length := range 40 {
		b, same := watched(r, chance(r, length))
		for at := range length + 1 {
			reader := New(b)
			for range 3 {
				overwrite(reader.Bytes(uint64(at)))
				overwrite(reader.Bytes(0))
				reader.Byte()
				reader.Num()
			}
			reader.Fail(api.ErrForm)
			reader.End()
			open(t, b).all()
		}
		if !same() {
			t.Fatalf("of %d bytes or those around them some are changed", length)
		}
	}
}

// TestReaderKeepsNothing: whatever becomes of what was handed to New, the reader answers as if it were as it was.
func TestReaderKeepsNothing(t *testing.T) { // P10.2, R6
	r := rand.New(rand.NewSource(15))
	for length := range 60 {
		all := chance(r, length)
		b, _ := watched(r, all)
		pair := both{t, New(b), &model{all: all}}
		for range 10 {
			overwrite(b)
			step(pair, r.Intn(4))
		}
		overwrite(b)
		pair.all()
	}
}

// TestBytesNewMemory: what is done with bytes that were answered, their spare room too, changes neither those answered before nor what comes behind them.
func TestBytesNewMemory(t *testing.T) { // P10.2, R6
	r := rand.New(rand.NewSource(16))
	for length := range 40 {
		for size := range 9 {
			all := chance(r, length)
			reader := New(all)
			var before [][]byte
			for reader.Left() >= max(size, 1) {
				at := length - reader.Left()
				got := reader.Bytes(uint64(size))
				if !bytes.Equal(got, all[at:at+size]) {
					t.Fatalf("Bytes(%d): %x, not %x", size, got, all[at:at+size])
				}
				before = append(before, slices.Clone(got))
				overwrite(got)
				one := reader.Byte()
				if at+size < length && one != all[at+size] {
					t.Fatalf("Byte: %x, not %x", one, all[at+size])
				}
			}
			for i, some := range before {
				if at := i * (size + 1); !bytes.Equal(some, all[at:at+size]) {
					t.Fatalf("bytes %d: %x, not %x", i, some, all[at:at+size])
				}
			}
		}
	}
}

// TestBytesStay: bytes that were answered stay, while others are taken and done away with.
func TestBytesStay(t *testing.T) { // P10.2, R6
	all := chance(rand.New(rand.NewSource(17)), 64)
	r := New(all)
	var list [][]byte
	for range 16 {
		list = append(list, r.Bytes(4))
	}
	for i := range list {
		if !bytes.Equal(list[i], all[4*i:4*i+4]) {
			t.Fatalf("bytes %d: %x", i, list[i])
		}
		overwrite(list[i])
		for j := i + 1; j < len(list); j++ {
			if !bytes.Equal(list[j], all[4*j:4*j+4]) {
				t.Fatalf("bytes %d changed with bytes %d", j, i)
			}
		}
	}
}

// TestTwoReaders: of the same bytes two readers don't meet.
func TestTwoReaders(t *testing.T) { // P10.2, R8
	b := slices.Concat(shortest(37), shortest(15293), shortest(1<<40))
	one, two := New(b), New(b)
	for _, want := range []uint64{37, 15293, 1 << 40} {
		if got := one.Num(); got != want || one.Code() != api.OK {
			t.Fatalf("Num: %d, not %d", got, want)
		}
	}
	one.Fail(api.ErrForm)
	if two.Left() != len(b) || two.Code() != api.OK {
		t.Fatalf("%d left, error %d", two.Left(), two.Code())
	}
	for _, want := range []uint64{37, 15293, 1 << 40} {
		if got := two.Num(); got != want {
			t.Fatalf("Num: %d, not %d", got, want)
		}
	}
	if e := two.End(); e != api.OK {
		t.Fatalf("End: error %d", e)
	}
}

// TestArgumentsAlone: whatever was called before, and whatever is called at once, the same is answered.
func TestArgumentsAlone(t *testing.T) { // P10.1, P10.2, R8
	want, e := Put([]byte("ahead"), limits...)
	if e != api.OK {
		t.Fatal(e)
	}
	var group sync.WaitGroup
	for worker := range 8 {
		group.Go(func() {
			r := rand.New(rand.NewSource(int64(worker)))
			for range 200 {
				Put(chance(r, 9), number(r), r.Uint64())
				if got, e := Put([]byte("ahead"), limits...); e != api.OK || !bytes.Equal(got, want) {
					t.Errorf("Put: %x, error %d", got, e)
				}
				if _, e := Put(nil, math.MaxUint64); e != api.ErrRange {
					t.Errorf("Put: error %d", e)
				}
				New(chance(r, 20)).Num()
				reader := New(want)
				ahead := reader.Bytes(5)
				for _, n := range limits {
					if got := reader.Num(); got != n {
						t.Errorf("Num: %d, not %d", got, n)
					}
				}
				if e := reader.End(); e != api.OK || string(ahead) != "ahead" {
					t.Errorf("End: error %d, ahead %x", e, ahead)
				}
			}
		})
	}
	group.Wait()
}
