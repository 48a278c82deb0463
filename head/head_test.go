package head

import (
	"bytes"
	"encoding/hex"
	"math"
	"math/big"
	"math/rand"
	"slices"
	"strings"
	"sync"
	"testing"

	"skiff/api"
)

// unhex: the bytes that a text of base sixteen tells, blanks left out.
func unhex(text string) []byte {
	b, err := hex.DecodeString(strings.ReplaceAll(text, " ", ""))
	if err != nil {
		panic(err)
	}
	return b
}

// chance: so many bytes by chance.
func chance(r *rand.Rand, n int) []byte {
	b := make([]byte, n)
	r.Read(b)
	return b
}

// The names that the tests use where nothing hangs on them.
const (
	toText   = "a1a2a3a4a5a6a7a8"
	fromText = "b1b2b3b4b5b6b7b8"
)

// of: a head of a space with names of eight bytes each, but none of the sender's in SData.
func of(space int) api.Head {
	h := api.Head{Space: space, To: unhex(toText)}
	if space != api.SData {
		h.From = unhex(fromText)
	}
	return h
}

// same: whether two heads are alike.
func same(a, b api.Head) bool {
	return a.Space == b.Space && bytes.Equal(a.To, b.To) && bytes.Equal(a.From, b.From)
}

// big64: a number as the library's great one.
func big64(n uint64) *big.Int { return new(big.Int).SetUint64(n) }

// power: 256 to a power.
func power(n int) *big.Int { return new(big.Int).Lsh(big.NewInt(1), uint(8*n)) }

// shortModel: P12.1's Short by its words, in numbers without an end.
func shortModel(pn, acked uint64) int {
	room := new(big.Int).Sub(big64(pn), big64(acked))
	room.Mul(room, big.NewInt(2)).Add(room, big.NewInt(1))
	for n := 1; n <= 4; n++ {
		if room.Cmp(power(n)) < 0 {
			return n
		}
	}
	return 4
}

// fullModel: P12.1's Full by its words, in numbers without an end.
func fullModel(short uint64, size int, next uint64) uint64 {
	size = max(1, min(4, size))
	w := power(size)
	half := new(big.Int).Rsh(w, 1)
	end := new(big.Int).Lsh(big.NewInt(1), 62)
	awaited := big64(next)
	c := new(big.Int).Sub(awaited, new(big.Int).Mod(awaited, w))
	c.Add(c, new(big.Int).Mod(big64(short), w))
	if new(big.Int).Add(c, half).Cmp(awaited) <= 0 && c.Cmp(new(big.Int).Sub(end, w)) < 0 {
		return c.Add(c, w).Uint64()
	}
	if c.Cmp(new(big.Int).Add(awaited, half)) > 0 && c.Cmp(w) >= 0 {
		return c.Sub(c, w).Uint64()
	}
	return c.Uint64()
}

// away: how far two numbers are from each other.
func away(a, b uint64) uint64 { return max(a, b) - min(a, b) }

// P12.1: the chapter's examples.
func TestExamples(t *testing.T) {
	if a, b := Short(5, 0), Short(200, 0); a != 1 || b != 2 {
		t.Errorf("Short(5, 0) is %d, Short(200, 0) %d", a, b)
	}
	if n := Full(5, 1, 260); n != 261 {
		t.Errorf("Full(5, 1, 260) is %d", n)
	}
}

// P12.1: the examples of RFC 9000, A.2 and A.3, where what was acknowledged is the number itself, not the one behind it.
func TestPublished(t *testing.T) {
	if n := Short(0xac5c02, 0xabe8b3+1); n != 2 {
		t.Errorf("of ac5c02 %d bytes are sent", n)
	}
	if n := Short(0xace8fe, 0xabe8b3+1); n != 3 {
		t.Errorf("of ace8fe %d bytes are sent", n)
	}
	if n := Full(0x9b32, 2, 0xa82f30ea+1); n != 0xa82f9b32 {
		t.Errorf("of 9b32 came %x", n)
	}
}

// P12.1: at each edge where a byte more is needed, wherever the two numbers stand.
func TestShortEdges(t *testing.T) {
	list := []struct {
		far  uint64
		want int
	}{
		{0, 1}, {1, 1}, {126, 1}, {127, 1}, {128, 2}, {129, 2}, {255, 2}, {256, 2},
		{32766, 2}, {32767, 2}, {32768, 3}, {32769, 3}, {65535, 3}, {65536, 3},
		{8388606, 3}, {8388607, 3}, {8388608, 4}, {8388609, 4}, {16777216, 4},
		{2147483646, 4}, {2147483647, 4}, {2147483648, 4}, {2147483649, 4}, {4294967296, 4},
		{1 << 39, 4}, {1 << 40, 4}, {1<<62 - 1, 4}, {1 << 62, 4},
		{1<<63 - 1, 4}, {1 << 63, 4}, {1<<63 + 1, 4}, {1<<63 + 127, 4}, {1<<63 + 128, 4}, {math.MaxUint64 - 1, 4}, {math.MaxUint64, 4},
	}
	for _, c := range list {
		if n := shortModel(c.far, 0); n != c.want {
			t.Fatalf("the model: %d away: %d", c.far, n)
		}
		for _, acked := range []uint64{0, 1, 127, 128, 255, 256, 1 << 31, 1<<32 - 1, 1<<62 - 1 - c.far, 1<<62 - c.far, math.MaxUint64 - c.far} {
			pn := acked + c.far
			if pn < acked {
				continue
			}
			if n := Short(pn, acked); n != c.want {
				t.Errorf("Short(%d, %d) is %d, not %d", pn, acked, n, c.want)
			}
		}
	}
}

// P12.1: of any numbers, as the words have it; R8: only the distance counts.
func TestShortAny(t *testing.T) {
	for far := range uint64(70000) {
		if n := Short(far, 0); n != shortModel(far, 0) {
			t.Fatalf("Short(%d, 0) is %d", far, n)
		}
	}
	r := rand.New(rand.NewSource(1201))
	for range 100000 {
		pn, far := r.Uint64()>>r.Intn(64), r.Uint64()>>r.Intn(64)
		far = min(far, pn)
		if n := Short(pn, pn-far); n != shortModel(pn, pn-far) {
			t.Fatalf("Short(%d, %d) is %d", pn, pn-far, n)
		}
	}
}

// P1, P12.1: where the acknowledged is above the number, which nothing is promised of, an answer comes, and it is one of the four.
func TestShortBeyond(t *testing.T) {
	list := []uint64{0, 1, 127, 128, 255, 1 << 32, 1<<62 - 1, 1 << 62, 1 << 63, math.MaxUint64 - 1, math.MaxUint64}
	for _, pn := range list {
		for _, acked := range list {
			if n := Short(pn, acked); n < 1 || n > 4 {
				t.Errorf("Short(%d, %d) is %d", pn, acked, n)
			}
		}
	}
}

// P12.1: Full, by hand, about the edges of each of its cases.
func TestFullEdges(t *testing.T) {
	const end = 1 << 62
	list := []struct {
		short uint64
		bytes int
		next  uint64
		want  uint64
	}{
		{0, 1, 0, 0}, {255, 1, 0, 255}, {127, 1, 0, 127}, {129, 1, 0, 129},
		// c and half of w: one below next, at it, one beyond.
		{0, 1, 127, 0}, {0, 1, 128, 256}, {0, 1, 129, 256},
		{5, 1, 256 + 132, 261}, {5, 1, 256 + 133, 517}, {5, 1, 256 + 134, 517},
		{0, 2, 32767, 0}, {0, 2, 32768, 65536}, {0, 3, 1<<23 - 1, 0}, {0, 3, 1 << 23, 1 << 24},
		{0, 4, 1<<31 - 1, 0}, {0, 4, 1 << 31, 1 << 32}, {1, 4, 1 << 31, 1}, {1, 4, 1<<31 + 1, 1<<32 + 1},
		// c above next and half of w, or just at it; c below w, at it, above it.
		{128, 1, 256, 256 + 128}, {129, 1, 256, 129}, {130, 1, 256, 130}, {129, 1, 257, 256 + 129}, {130, 1, 257, 130},
		{129, 1, 0, 129}, {255, 1, 126, 255}, {255, 1, 256, 255}, {255, 1, 256 + 126, 255}, {255, 1, 256 + 127, 511},
		{32768, 2, 65536, 65536 + 32768}, {32769, 2, 65536, 32769}, {32769, 2, 0, 32769}, {65535, 2, 32766, 65535},
		{1 << 23, 3, 1 << 24, 1<<24 + 1<<23}, {1<<23 + 1, 3, 1 << 24, 1<<23 + 1}, {1<<23 + 1, 3, 0, 1<<23 + 1},
		{1 << 31, 4, 1 << 32, 1<<32 + 1<<31}, {1<<31 + 1, 4, 1 << 32, 1<<31 + 1}, {1<<31 + 1, 4, 0, 1<<31 + 1},
		// c below 2^62 - w, or just at it, where there is no number so far.
		{0, 1, end - 1, end - 256}, {0, 1, end - 129, end - 256}, {126, 1, end - 1, end - 130}, {127, 1, end - 1, end - 129}, {128, 1, end - 1, end - 128}, {255, 1, end - 1, end - 1},
		{0, 1, end - 257, end - 256}, {0, 1, end - 384, end - 256}, {0, 1, end - 385, end - 512}, {127, 1, end - 257, end - 129}, {255, 1, end - 256, end - 257},
		{0, 2, end - 1, end - 65536}, {0, 2, end - 65537, end - 65536}, {0, 3, end - 1, end - 1<<24}, {0, 4, end - 1, end - 1<<32}, {0, 4, end - 1<<32 - 1, end - 1<<32}, {1<<31 + 1, 4, end - 1<<32, end - 1<<33 + 1<<31 + 1}, {1 << 31, 4, end - 1<<32, end - 1<<31},
		// Fewer bytes than one as one, more than four as four, and of the short number those bytes alone.
		{0x1234, 0, 256, 256 + 0x34}, {0x1234, -1, 256, 256 + 0x34}, {0x1234, math.MinInt, 256, 256 + 0x34}, {0x12ff, 1, 256, 255},
		{0x123456789a, 5, 0, 0x3456789a}, {0x123456789a, 4, 0, 0x3456789a}, {0x123456789a, math.MaxInt, 1 << 32, 1<<32 + 0x3456789a}, {0x123456789a, 8, 0, 0x3456789a},
		{0x123456789a, 3, 0, 0x56789a}, {0x123456789a, 2, 0, 0x789a}, {math.MaxUint64, 1, 0, 255}, {math.MaxUint64, 4, 0, 1<<32 - 1}, {math.MaxUint64, 4, end - 1, end - 1},
	}
	for _, c := range list {
		if n := fullModel(c.short, c.bytes, c.next); n != c.want {
			t.Errorf("the model: Full(%d, %d, %d) is %d, not %d", c.short, c.bytes, c.next, n, c.want)
		}
		if n := Full(c.short, c.bytes, c.next); n != c.want {
			t.Errorf("Full(%d, %d, %d) is %d, not %d", c.short, c.bytes, c.next, n, c.want)
		}
	}
}

// P12.1: of one byte, every short number with every next about the beginning, the end, and a place between, as the words have it; and none is nearer.
func TestFullOfOneByte(t *testing.T) {
	for _, from := range []uint64{0, 1 << 40, 1<<62 - 1200} {
		for next := from; next < from+1200; next++ {
			for short := range uint64(256) {
				n := Full(short, 1, next)
				if next&7 == 3 && n != fullModel(short, 1, next) {
					t.Fatalf("Full(%d, 1, %d) is %d", short, next, n)
				}
				if n%256 != short || n > api.MaxVar {
					t.Fatalf("Full(%d, 1, %d) is %d, which isn't such a number", short, next, n)
				}
				if n >= 256 && away(n-256, next) < away(n, next) || n+256 <= api.MaxVar && away(n+256, next) < away(n, next) {
					t.Fatalf("Full(%d, 1, %d) is %d, and another is nearer", short, next, n)
				}
			}
		}
	}
}

// P12.1: of any arguments, as the words have it.
func TestFullAny(t *testing.T) {
	r := rand.New(rand.NewSource(1202))
	edges := []uint64{0, 1 << 7, 1 << 8, 1 << 15, 1 << 16, 1 << 23, 1 << 24, 1 << 31, 1 << 32, 1<<32 + 1<<31, 1 << 33, 1 << 61, 1<<62 - 1<<33, 1<<62 - 1<<32, 1<<62 - 1<<31, 1<<62 - 1<<24, 1<<62 - 1<<16, 1<<62 - 1<<8, 1<<62 - 1}
	near := func() uint64 { return edges[r.Intn(len(edges))] + uint64(r.Intn(5)) - 2 }
	for range 300000 {
		short, size, next := r.Uint64()>>r.Intn(64), r.Intn(8)-1, r.Uint64()>>(2+r.Intn(62))
		if r.Intn(2) == 0 {
			next = near() & api.MaxVar
		}
		if r.Intn(2) == 0 {
			short = next + near()
		}
		if n := Full(short, size, next); n != fullModel(short, size, next) {
			t.Fatalf("Full(%d, %d, %d) is %d, not %d", short, size, next, n, fullModel(short, size, next))
		}
	}
}

// P1, P12.1: where next is above the greatest number, which nothing is promised of, an answer comes, with these bytes.
func TestFullBeyond(t *testing.T) {
	for _, next := range []uint64{1 << 62, 1<<62 + 1, 1 << 63, math.MaxUint64 - 1<<31, math.MaxUint64 - 1, math.MaxUint64} {
		for _, short := range []uint64{0, 1, 127, 128, 255, 1 << 31, math.MaxUint64} {
			for size := 1; size <= 4; size++ {
				w := uint64(1) << (8 * size)
				if n := Full(short, size, next); n%w != short%w {
					t.Errorf("Full(%d, %d, %d) is %d", short, size, next, n)
				}
			}
		}
	}
}

// P12.1: what is sent of a number is the number again, wherever next is between what is acknowledged and it.
func TestThereAndBack(t *testing.T) {
	r := rand.New(rand.NewSource(1203))
	edges := []uint64{0, 1, 126, 127, 128, 255, 256, 32766, 32767, 32768, 65535, 65536, 1<<23 - 1, 1 << 23, 1<<24 - 1, 1 << 24, 1<<31 - 2, 1<<31 - 1}
	back := func(pn, acked, next uint64) {
		n := Short(pn, acked)
		for _, above := range []uint64{0, math.MaxUint64 << (8 * n)} {
			short := pn&(1<<(8*n)-1) | above
			if got := Full(short, n, next); got != pn {
				t.Fatalf("of %d with %d acknowledged %d bytes are sent: awaiting %d it is %d", pn, acked, n, next, got)
			}
		}
	}
	for _, pn := range []uint64{0, 1, 127, 128, 129, 255, 256, 257, 383, 384, 385, 65535, 65536, 1<<24 + 5, 1<<32 - 1, 1 << 32, 1 << 40, 1 << 61, 1<<62 - 257, 1<<62 - 256, 1<<62 - 129, 1<<62 - 128, 1<<62 - 2, 1<<62 - 1} {
		for _, far := range edges {
			if far > pn {
				continue
			}
			acked := pn - far
			back(pn, acked, acked)
			back(pn, acked, pn)
			for range 20 {
				back(pn, acked, acked+uint64(r.Int63n(int64(far)+1)))
			}
		}
	}
	for range 100000 {
		pn := r.Uint64() >> (2 + r.Intn(62))
		far := min(pn, r.Uint64()>>(33+r.Intn(31)))
		back(pn, pn-far, pn-far+uint64(r.Int63n(int64(far)+1)))
	}
	for pn := range uint64(600) {
		for acked := uint64(0); acked <= pn; acked++ {
			for _, next := range []uint64{acked, (acked + pn) / 2, pn} {
				back(pn, acked, next)
			}
		}
	}
}

// headModel: a head by the chapter's words, piece by piece.
func headModel(h api.Head, pn uint64, size, rest int) []byte {
	number := make([]byte, 8)
	for i := range number {
		number[7-i] = byte(pn & 255)
		pn /= 256
	}
	number = number[8-size:]
	if h.Space == api.SData {
		return slices.Concat([]byte{64 + byte(size) - 1}, h.To, number)
	}
	ahead := [][]byte{{192 + byte(size) - 1}, {0, 0, 0, 1}, {8}, h.To, {8}, h.From, {0}}
	if h.Space == api.SHandshake {
		ahead[0][0] += 32
		ahead = ahead[:6]
	}
	all := size + rest
	return slices.Concat(slices.Concat(ahead...), []byte{64 + byte(all/256), byte(all % 256)}, number)
}

// P12.2: the exact bytes, written by hand.
func TestPutBytes(t *testing.T) {
	list := []struct {
		space       int
		pn          uint64
		bytes, size int
		want        string
	}{
		{api.SData, 0, 1, 0, "40" + toText + "00"},
		{api.SData, 0x123456789a, 1, 20, "40" + toText + "9a"},
		{api.SData, 0x123456789a, 2, 1200, "41" + toText + "789a"},
		{api.SData, 0x123456789a, 3, 20, "42" + toText + "56789a"},
		{api.SData, 0x123456789a, 4, 20, "43" + toText + "3456789a"},
		{api.SInitial, 0, 1, 0, "c0 00000001 08" + toText + "08" + fromText + "00 4001 00"},
		{api.SInitial, 0x123456789a, 2, 17, "c1 00000001 08" + toText + "08" + fromText + "00 4013 789a"},
		{api.SInitial, 2, 4, 1162, "c3 00000001 08" + toText + "08" + fromText + "00 448e 00000002"},
		{api.SInitial, 7, 4, 1200, "c3 00000001 08" + toText + "08" + fromText + "00 44b4 00000007"},
		{api.SHandshake, 0x123456789a, 1, 62, "e0 00000001 08" + toText + "08" + fromText + "403f 9a"},
		{api.SHandshake, 0x123456789a, 1, 63, "e0 00000001 08" + toText + "08" + fromText + "4040 9a"},
		{api.SHandshake, 0x123456789a, 2, 254, "e1 00000001 08" + toText + "08" + fromText + "4100 789a"},
		{api.SHandshake, 0x123456789a, 3, 252, "e2 00000001 08" + toText + "08" + fromText + "40ff 56789a"},
		{api.SHandshake, math.MaxUint64, 4, 1200, "e3 00000001 08" + toText + "08" + fromText + "44b4 ffffffff"},
	}
	for _, c := range list {
		b, e := Put(of(c.space), c.pn, c.bytes, c.size)
		if e != api.OK || !bytes.Equal(b, unhex(c.want)) {
			t.Errorf("Put(space %d, %x, %d, %d): %x, %d, not %s", c.space, c.pn, c.bytes, c.size, b, e, c.want)
		}
	}
}

// P12.2: in each space every size, with every number of the number's bytes.
func TestPutSizes(t *testing.T) {
	r := rand.New(rand.NewSource(1204))
	for space := range api.Spaces {
		for size := range api.MaxPacket + 1 {
			for n := 1; n <= 4; n++ {
				h := api.Head{Space: space, To: chance(r, 8), From: chance(r, 8)}
				pn := r.Uint64() >> r.Intn(64)
				b, e := Put(h, pn, n, size)
				if e != api.OK || !bytes.Equal(b, headModel(h, pn, n, size)) {
					t.Fatalf("Put(%v, %x, %d, %d): %x, %d", h, pn, n, size, b, e)
				}
			}
		}
	}
}

// P12.2, R2, R3: what isn't right in each place, alone, and with all others.
func TestPutErrors(t *testing.T) {
	spaces := []int{math.MinInt, -3, -2, -1, 0, 1, 2, 3, 4, 256, math.MaxInt}
	lengths := []int{0, 1, 7, 8, 9, 16, 300}
	counts := []int{math.MinInt, -1, 0, 1, 4, 5, 8, math.MaxInt}
	sizes := []int{math.MinInt, -1, 0, 1, 1199, 1200, 1201, 1 << 32, math.MaxInt}
	right := func(space, to, from, count, size int) bool {
		if space < 0 || space > 2 || count < 1 || count > 4 || size < 0 || size > 1200 {
			return false
		}
		return to == 8 && (from == 8 || space == 2)
	}
	for _, space := range spaces {
		for _, to := range lengths {
			for _, from := range lengths {
				h := api.Head{Space: space, To: make([]byte, to), From: make([]byte, from)}
				for _, count := range counts {
					for _, size := range sizes {
						b, e := Put(h, 3, count, size)
						if right(space, to, from, count, size) {
							if e != api.OK || !bytes.Equal(b, headModel(h, 3, count, size)) {
								t.Errorf("Put(space %d, names of %d and %d, %d, %d): %x, %d", space, to, from, count, size, b, e)
							}
						} else if e != api.ErrRange || len(b) > 0 {
							t.Errorf("Put(space %d, names of %d and %d, %d, %d): %x, %d, not ErrRange", space, to, from, count, size, b, e)
						}
					}
				}
			}
		}
	}
}

// P12.2, R5: a name that isn't written may be nil, empty, or of any length; one that is may not be nil.
func TestPutNil(t *testing.T) {
	want := headModel(of(api.SData), 9, 2, 30)
	for _, from := range [][]byte{nil, {}, {1}, make([]byte, 7), make([]byte, 8), make([]byte, 9), make([]byte, 1000)} {
		h := of(api.SData)
		h.From = from
		if b, e := Put(h, 9, 2, 30); e != api.OK || !bytes.Equal(b, want) {
			t.Errorf("in SData with a name of %d: %x, %d", len(from), b, e)
		}
	}
	for space := range api.Spaces {
		h := of(space)
		h.To = nil
		if b, e := Put(h, 9, 2, 30); e != api.ErrRange || b != nil {
			t.Errorf("in space %d to nobody: %x, %d", space, b, e)
		}
	}
	for _, space := range []int{api.SInitial, api.SHandshake} {
		h := of(space)
		h.From = nil
		if b, e := Put(h, 9, 2, 30); e != api.ErrRange || b != nil {
			t.Errorf("in space %d from nobody: %x, %d", space, b, e)
		}
	}
}

// stop is the fault at which the model leaves off.
type stop struct{ e api.Errno }

// takeModel: P12.3 by its words, going from byte to byte.
func takeModel(b []byte) (h api.Head, at, end int, e api.Errno) {
	defer func() {
		if s, ok := recover().(stop); ok {
			h, at, end, e = api.Head{}, 0, 0, s.e
		}
	}()
	pos := 0
	next := func(n int) []byte {
		if len(b)-pos < n {
			panic(stop{api.ErrShort})
		}
		pos += n
		return b[pos-n : pos]
	}
	must := func(holds bool, e api.Errno) {
		if !holds {
			panic(stop{e})
		}
	}
	first := next(1)[0]
	must(first/0x40%2 == 1, api.ErrForm)
	if first < 0x80 {
		h.Space = 2
		h.To = next(8)
		return h, pos, len(b), api.OK
	}
	must(first/0x10%2 == 0, api.ErrForm)
	h.Space = int(first / 0x20 % 2)
	must(bytes.Equal(next(4), []byte{0, 0, 0, 1}), api.ErrKind)
	must(next(1)[0] == 8, api.ErrForm)
	h.To = next(8)
	must(next(1)[0] == 8, api.ErrForm)
	h.From = next(8)
	if h.Space == 0 {
		must(next(1)[0] == 0, api.ErrForm)
	}
	one := next(1)[0]
	size := big.NewInt(int64(one % 64))
	for _, v := range next([]int{0, 1, 3, 7}[one/64]) {
		size.Mul(size, big.NewInt(256)).Add(size, big.NewInt(int64(v)))
	}
	must(size.Cmp(big.NewInt(int64(len(b)-pos))) <= 0, api.ErrShort)
	return h, pos, pos + int(size.Int64()), api.OK
}

// check: that Take answers what the model does, and R3.
func check(t *testing.T, b []byte) {
	t.Helper()
	h, at, end, e := Take(b)
	wantH, wantAt, wantEnd, wantE := takeModel(b)
	if !same(h, wantH) || at != wantAt || end != wantEnd || e != wantE {
		t.Fatalf("Take(%x): %v, %d, %d, %d, not %v, %d, %d, %d", b, h, at, end, e, wantH, wantAt, wantEnd, wantE)
	}
	if h.Space == api.SData && h.From != nil || e != api.OK && (h.To != nil || h.From != nil) {
		t.Fatalf("Take(%x): names that aren't there: %v", b, h)
	}
}

// P12.3: what Put gives, and where number and packet are, with bytes behind its end and without.
func TestTakeOfPut(t *testing.T) {
	r := rand.New(rand.NewSource(1205))
	starts := []int{26, 25, 9}
	for space := range api.Spaces {
		for _, size := range []int{0, 1, 16, 17, 62, 63, 64, 255, 256, 1000, 1199, 1200} {
			for n := 1; n <= 4; n++ {
				for _, behind := range []int{0, 1, 20, 1500} {
					h := of(space)
					b, e := Put(h, r.Uint64(), n, size)
					if e != api.OK {
						t.Fatalf("Put: %d", e)
					}
					b = append(b, chance(r, size)...)
					want := len(b)
					b = append(b, chance(r, behind)...)
					if space == api.SData {
						want = len(b)
					}
					got, at, end, e := Take(b)
					if !same(got, h) || at != starts[space] || end != want || e != api.OK {
						t.Errorf("space %d, %d and %d bytes, %d behind: %v, %d, %d, %d", space, n, size, behind, got, at, end, e)
					}
					check(t, b)
				}
			}
		}
	}
}

// P12.3: heads by hand.
func TestTakeBytes(t *testing.T) {
	list := []struct {
		bytes   string
		space   int
		at, end int
	}{
		{"40" + toText, api.SData, 9, 9},
		{"7f" + toText, api.SData, 9, 9},
		{"50" + toText + "01", api.SData, 9, 10},
		{"43" + toText + "00000001 aabbcc", api.SData, 9, 16},
		{"c0 00000001 08" + toText + "08" + fromText + "00 4000", api.SInitial, 26, 26},
		{"cf 00000001 08" + toText + "08" + fromText + "00 4001 07", api.SInitial, 26, 27},
		{"c3 00000001 08" + toText + "08" + fromText + "00 4006 00000002 aabb ccdd", api.SInitial, 26, 32},
		{"e0 00000001 08" + toText + "08" + fromText + "4000", api.SHandshake, 25, 25},
		{"ef 00000001 08" + toText + "08" + fromText + "4002 0102 03", api.SHandshake, 25, 27},
		// A size in other than two bytes: no error is told of it.
		{"c0 00000001 08" + toText + "08" + fromText + "00 01 07 08", api.SInitial, 25, 26},
		{"e0 00000001 08" + toText + "08" + fromText + "00", api.SHandshake, 24, 24},
		{"e0 00000001 08" + toText + "08" + fromText + "80000002 0708 09", api.SHandshake, 27, 29},
		{"c0 00000001 08" + toText + "08" + fromText + "00 c000000000000003 070809 0a", api.SInitial, 32, 35},
	}
	for _, c := range list {
		h, at, end, e := Take(unhex(c.bytes))
		if !same(h, of(c.space)) || at != c.at || end != c.end || e != api.OK {
			t.Errorf("Take(%s): %v, %d, %d, %d", c.bytes, h, at, end, e)
		}
		check(t, unhex(c.bytes))
	}
}

// P12.3, R3: bytes that lack, at each place, in each space.
func TestTakeShort(t *testing.T) {
	for _, c := range []struct {
		bytes string
		least int
	}{
		{"41" + toText + "0102 aabb", 9},
		{"c1 00000001 08" + toText + "08" + fromText + "00 4004 0102 aabb", 30},
		{"e1 00000001 08" + toText + "08" + fromText + "4004 0102 aabb", 29},
		{"c1 00000001 08" + toText + "08" + fromText + "00 02 0102", 27},
		{"e1 00000001 08" + toText + "08" + fromText + "80000002 0102", 29},
		{"e1 00000001 08" + toText + "08" + fromText + "c000000000000002 0102", 33},
	} {
		b := unhex(c.bytes)
		for n := range b {
			h, at, end, e := Take(b[:n])
			if n < c.least && (e != api.ErrShort || at != 0 || end != 0 || h.Space != 0 || h.To != nil || h.From != nil) {
				t.Errorf("%d bytes of %x: %v, %d, %d, %d", n, b, h, at, end, e)
			}
			if n >= c.least && e != api.OK {
				t.Errorf("%d bytes of %x: %d", n, b, e)
			}
			check(t, b[:n])
		}
	}
	for _, b := range [][]byte{nil, {}} {
		if _, _, _, e := Take(b); e != api.ErrShort {
			t.Errorf("of no byte: %d", e)
		}
	}
}

// P12.3: every first byte, with nothing behind it, with what is right behind it, and with what is wrong.
func TestTakeFirst(t *testing.T) {
	rest := unhex("00000001 08" + toText + "08" + fromText + "00 4000 4000 0000")
	for first := range 256 {
		wrong := first&0x40 == 0 || first&0x80 != 0 && first&0x10 != 0
		for n := range len(rest) + 1 {
			b := append([]byte{byte(first)}, rest[:n]...)
			_, _, _, e := Take(b)
			if wrong != (e == api.ErrForm) {
				t.Errorf("Take(%x): %d", b, e)
			}
			check(t, b)
			if n > 0 {
				b[1] = 0xff
				if _, _, _, e := Take(b); wrong != (e == api.ErrForm) {
					t.Errorf("Take(%x): %d", b, e)
				}
			}
		}
	}
}

// P12.3: one fault at each place: which error it is; and two, of which the first in the order of the bytes is told.
func TestTakeFaults(t *testing.T) {
	type fault struct {
		at    int
		value byte
		want  api.Errno
	}
	list := []fault{
		{0, 0x80, api.ErrForm}, {0, 0x00, api.ErrForm}, {0, 0xd0, api.ErrForm}, {0, 0xf0, api.ErrForm}, {0, 0x3f, api.ErrForm}, {0, 0xbf, api.ErrForm},
		{1, 1, api.ErrKind}, {1, 0x80, api.ErrKind}, {2, 1, api.ErrKind}, {3, 1, api.ErrKind}, {4, 0, api.ErrKind}, {4, 2, api.ErrKind}, {4, 0x81, api.ErrKind},
		{5, 0, api.ErrForm}, {5, 7, api.ErrForm}, {5, 9, api.ErrForm}, {5, 0x48, api.ErrForm}, {5, 0xff, api.ErrForm},
		{14, 0, api.ErrForm}, {14, 7, api.ErrForm}, {14, 9, api.ErrForm}, {14, 0x88, api.ErrForm}, {14, 0xff, api.ErrForm},
	}
	first := append(list, fault{23, 1, api.ErrForm}, fault{23, 0x40, api.ErrForm}, fault{23, 0x80, api.ErrForm}, fault{23, 0xff, api.ErrForm}, fault{25, 5, api.ErrShort}, fault{24, 0x41, api.ErrShort})
	second := append(slices.Clip(list), fault{24, 5, api.ErrShort}, fault{23, 0x41, api.ErrShort})
	try := func(text string, faults []fault) {
		right := unhex(text)
		for _, a := range faults {
			for _, b := range faults {
				for n := a.at + 1; n <= len(right); n++ {
					// Of a version's bytes it can be told only when there are all.
					if a.at >= 1 && a.at <= 4 && n < 5 {
						continue
					}
					bent := slices.Clone(right)
					if b.at > a.at {
						bent[b.at] = b.value
					}
					bent[a.at] = a.value
					if _, _, _, e := Take(bent[:n]); e != a.want {
						t.Errorf("Take(%x): %d, not %d", bent[:n], e, a.want)
					}
					check(t, bent[:n])
				}
			}
		}
	}
	try("c1 00000001 08"+toText+"08"+fromText+"00 4004 0102 aabb", first)
	try("e1 00000001 08"+toText+"08"+fromText+"4004 0102 aabb", second)
}

// P12.3: a version that isn't there as a whole: bytes lack, whatever they are.
func TestTakeVersionLacks(t *testing.T) {
	for _, text := range []string{"c0", "c0 00", "c0 0000", "c0 000000", "c0 01", "c0 ffffff", "e0 000001", "e0 01"} {
		if _, _, _, e := Take(unhex(text)); e != api.ErrShort {
			t.Errorf("Take(%s): %d", text, e)
		}
	}
}

// P12.3: sizes about what is behind, and far beyond it.
func TestTakeSizes(t *testing.T) {
	ahead := map[int][]byte{
		api.SInitial:   unhex("c0 00000001 08" + toText + "08" + fromText + "00"),
		api.SHandshake: unhex("e0 00000001 08" + toText + "08" + fromText),
	}
	for space, head := range ahead {
		for behind := range 70 {
			for size := range 70 {
				b := slices.Concat(head, []byte{0x40, byte(size)}, make([]byte, behind))
				h, at, end, e := Take(b)
				if size > behind {
					if e != api.ErrShort || at != 0 || end != 0 || h.To != nil {
						t.Errorf("%d of %d: %v, %d, %d, %d", size, behind, h, at, end, e)
					}
				} else if e != api.OK || h.Space != space || at != len(head)+2 || end != at+size {
					t.Errorf("%d of %d: %v, %d, %d, %d", size, behind, h, at, end, e)
				}
			}
		}
		for _, size := range []string{"7fff", "bfffffff", "80010000", "ffffffffffffffff", "c000000100000000", "c000000000010000", "e000000000000000"} {
			b := slices.Concat(head, unhex(size), make([]byte, 50))
			if _, at, end, e := Take(b); e != api.ErrShort || at != 0 || end != 0 {
				t.Errorf("of size %s: %d, %d, %d", size, at, end, e)
			}
			check(t, b)
		}
	}
	// Great packets, too, which no datagram holds: the chapter has no limit there.
	b := slices.Concat(ahead[api.SInitial], unhex("80010000"), make([]byte, 1<<16))
	if _, at, end, e := Take(b); e != api.OK || at != 28 || end != 28+1<<16 {
		t.Errorf("of size 65536: %d, %d, %d", at, end, e)
	}
	b = slices.Concat(unhex("40"+toText), make([]byte, 1<<16))
	if _, at, end, e := Take(b); e != api.OK || at != 9 || end != 9+1<<16 {
		t.Errorf("in SData with 65536 behind: %d, %d, %d", at, end, e)
	}
}

// P1, P12.3: any bytes at all, and such as are nearly right.
func TestTakeAny(t *testing.T) {
	r := rand.New(rand.NewSource(1206))
	for range 100000 {
		check(t, chance(r, r.Intn(60)))
	}
	for range 300000 {
		b, _ := Put(of(r.Intn(api.Spaces)), r.Uint64(), 1+r.Intn(4), r.Intn(40))
		b = append(b, chance(r, r.Intn(50))...)
		for range r.Intn(4) {
			b[r.Intn(len(b))] = []byte{0, 1, 7, 8, 9, 0x40, 0x80, 0xc0, 0xe0, byte(r.Intn(256))}[r.Intn(10)]
		}
		for range r.Intn(2) {
			b[r.Intn(len(b))] ^= 1 << r.Intn(8)
		}
		if r.Intn(3) == 0 {
			b = b[:r.Intn(len(b)+1)]
		}
		check(t, b)
	}
}

// P12.2, P12.3, R6: what is handed in stays, its spare room too, and answers are new memory.
func TestMemory(t *testing.T) {
	for space := range api.Spaces {
		room := bytes.Repeat([]byte{0xee}, 64)
		copy(room[10:], unhex(toText))
		copy(room[30:], unhex(fromText))
		before := bytes.Clone(room)
		h := api.Head{Space: space, To: room[10:18], From: room[30:38]}
		b, e := Put(h, 77, 3, 25)
		want := bytes.Clone(b)
		if e != api.OK || !bytes.Equal(room, before) {
			t.Fatalf("space %d: Put has changed its argument: %d", space, e)
		}
		clear(room)
		if !bytes.Equal(b, want) {
			t.Errorf("space %d: Put's answer changes with its argument", space)
		}
		copy(room, before)
		for i := range b[:cap(b)] {
			b[:cap(b)][i] = 0x55
		}
		if !bytes.Equal(room, before) {
			t.Errorf("space %d: Put's answer shares memory with its argument", space)
		}
		if again, _ := Put(h, 77, 3, 25); !bytes.Equal(again, want) {
			t.Errorf("space %d: Put's answer hangs on what was done with an earlier one", space)
		}
	}
	for _, text := range []string{"41" + toText + "0102", "c1 00000001 08" + toText + "08" + fromText + "00 4004 0102 aabb", "e1 00000001 08" + toText + "08" + fromText + "4004 0102 aabb"} {
		b := unhex(text)
		room := append(bytes.Clone(b), bytes.Repeat([]byte{0xee}, 40)...)
		before := bytes.Clone(room)
		h, _, _, e := Take(room[:len(b)])
		if e != api.OK || !bytes.Equal(room, before) {
			t.Fatalf("Take(%s) has changed its argument: %d", text, e)
		}
		clear(room)
		if !same(h, of(h.Space)) {
			t.Errorf("Take(%s): the answer changes with the argument", text)
		}
		copy(room, before)
		for i := range h.To[:cap(h.To)] {
			h.To[:cap(h.To)][i] = 0x55
		}
		if !bytes.Equal(room, before) || h.From != nil && !bytes.Equal(h.From, unhex(fromText)) {
			t.Errorf("Take(%s): a name shares memory with the argument, or with the other name", text)
		}
		for i := range h.From[:cap(h.From)] {
			h.From[:cap(h.From)][i] = 0x66
		}
		if !bytes.Equal(room, before) || !bytes.Equal(h.To, bytes.Repeat([]byte{0x55}, 8)) {
			t.Errorf("Take(%s): a name shares memory with the argument, or with the other name", text)
		}
		if again, _, _, _ := Take(b); !same(again, of(again.Space)) {
			t.Errorf("Take(%s): the answer hangs on what was done with an earlier one", text)
		}
	}
}

// R8: answers depend on the arguments alone, whoever else asks meanwhile.
func TestTogether(t *testing.T) {
	var wait sync.WaitGroup
	for i := range 8 {
		wait.Go(func() {
			r := rand.New(rand.NewSource(int64(1207 + i)))
			for range 300 {
				h := api.Head{Space: r.Intn(3), To: chance(r, 8), From: chance(r, 8)}
				pn, n, size := r.Uint64(), 1+r.Intn(4), r.Intn(1201)
				b, e := Put(h, pn, n, size)
				if e != api.OK || !bytes.Equal(b, headModel(h, pn, n, size)) {
					t.Errorf("Put: %x, %d", b, e)
				}
				check(t, append(b, chance(r, size)...))
				next := r.Uint64() >> 2
				if Full(pn, n, next) != fullModel(pn, n, next) || Short(pn, pn/2) != shortModel(pn, pn/2) {
					t.Errorf("Full or Short of %d", pn)
				}
			}
		})
	}
	wait.Wait()
}
