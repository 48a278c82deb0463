package frame

import (
	"bytes"
	"encoding/binary"
	"encoding/hex"
	"math"
	"math/big"
	"math/rand"
	"slices"
	"strings"
	"sync"
	"testing"

	"skiff/api"
)

// unhex: the bytes that a text of base sixteen tells, blanks left out.
func unhex(text string) []byte {
	b, err := hex.DecodeString(strings.ReplaceAll(text, " ", ""))
	if err != nil {
		panic(err)
	}
	return b
}

// chance: so many bytes by chance.
func chance(r *rand.Rand, n int) []byte {
	b := make([]byte, n)
	r.Read(b)
	return b
}

// filled: so many bytes, none of them alike with those about it.
func filled(n int) []byte {
	b := make([]byte, n)
	for i := range b {
		b[i] = byte(7 + 11*i + i>>8)
	}
	return b
}

// written: a number in a size, by the library.
func written(n uint64, size int) []byte {
	switch size {
	case 1:
		return []byte{byte(n)}
	case 2:
		return binary.BigEndian.AppendUint16(nil, uint16(n)|0x4000)
	case 4:
		return binary.BigEndian.AppendUint32(nil, uint32(n)|0x80000000)
	}
	return binary.BigEndian.AppendUint64(nil, n|0xc000000000000000)
}

// sizes: in how many bytes a number has room.
func sizes(n uint64) []int {
	switch {
	case n <= 63:
		return []int{1, 2, 4, 8}
	case n <= 16383:
		return []int{2, 4, 8}
	case n <= 1073741823:
		return []int{4, 8}
	}
	return []int{8}
}

// short: a number in as few bytes as may be.
func short(n uint64) []byte { return written(n, sizes(n)[0]) }

// shorts: some one behind the other.
func shorts(list ...uint64) []byte {
	var b []byte
	for _, n := range list {
		b = append(b, short(n)...)
	}
	return b
}

// greatest is what a short number is up to.
const greatest = 4611686018427387903

// limits: the least and the greatest number of each size, and those beside them.
var limits = []uint64{0, 1, 2, 62, 63, 64, 65, 255, 256, 16383, 16384, 1<<24 - 1, 1 << 24, 1073741823, 1073741824, 1 << 32, 1 << 56, greatest - 1, greatest}

// tooGreat: numbers above what a short number is up to.
var tooGreat = []uint64{greatest + 1, greatest + 2, 1<<63 - 1, 1 << 63, 1<<63 + 1, math.MaxUint64 - 1, math.MaxUint64}

// kinds: all of them.
var kinds = []uint64{0, 1, 2, 4, 5, 6, 8, 16, 17, 18, 28, 30}

// others: kinds that there aren't, those that a STREAM has as it is written among them.
func others() []uint64 {
	var out []uint64
	add := func(n uint64) {
		if !slices.Contains(kinds, n) {
			out = append(out, n)
		}
	}
	for n := range uint64(300) {
		add(n)
	}
	for at := 6; at < 64; at++ {
		for _, kind := range kinds {
			add(1<<at + kind)
		}
		add(1<<at - 1)
	}
	for _, kind := range kinds {
		add(-kind - 1)
		add(-kind)
	}
	return out
}

// withData: the kinds that have Data.
var withData = []uint64{6, 8, 28}

// table is the chapter's, for those kinds that it tells in a row: i Id, o Off, n N, c Code, d how many bytes and Data.
var table = map[uint64]string{0: "", 1: "", 30: "", 4: "icn", 5: "ic", 6: "od", 16: "n", 17: "in", 18: "n", 28: "cd"}

// place: of a frame the number that a letter tells.
func place(f *api.Frame, letter rune) *uint64 {
	switch letter {
	case 'i':
		return &f.Id
	case 'o':
		return &f.Off
	case 'n':
		return &f.N
	}
	return &f.Code
}

// uses: the letters of a frame's kind.
func uses(f api.Frame) string {
	switch {
	case f.Kind == api.FAck:
		return "n"
	case f.Kind == api.FStream && f.Off == 0:
		return "id"
	case f.Kind == api.FStream:
		return "iod"
	}
	return table[f.Kind]
}

// numbers: what stands ahead of a frame's Data, by the chapter's table; all of it is right.
func numbers(f api.Frame) []uint64 {
	if f.Kind == api.FAck {
		list := []uint64{2, f.Acks[0].Hi, f.N, uint64(len(f.Acks)) - 1, f.Acks[0].Hi - f.Acks[0].Lo}
		for i := 1; i < len(f.Acks); i++ {
			list = append(list, f.Acks[i-1].Lo-f.Acks[i].Hi-2, f.Acks[i].Hi-f.Acks[i].Lo)
		}
		return list
	}
	list := []uint64{f.Kind}
	if f.Kind == api.FStream {
		list[0] = 10
		if f.Fin {
			list[0]++
		}
		if f.Off != 0 {
			list[0] += 4
		}
	}
	for _, letter := range uses(f) {
		if letter == 'd' {
			list = append(list, uint64(len(f.Data)))
		} else {
			list = append(list, *place(&f, letter))
		}
	}
	return list
}

// plain: of a frame only what its kind has.
func plain(f api.Frame) api.Frame {
	out := api.Frame{Kind: f.Kind}
	for _, letter := range uses(f) {
		if letter == 'd' {
			out.Data = f.Data
		} else {
			*place(&out, letter) = *place(&f, letter)
		}
	}
	if f.Kind == api.FStream {
		out.Fin = f.Fin
	}
	if f.Kind == api.FAck {
		out.Acks = f.Acks
	}
	return out
}

// same: whether two frames are alike, in all that a frame has.
func same(f, g api.Frame) bool {
	return f.Kind == g.Kind && f.Id == g.Id && f.Off == g.Off && f.N == g.N && f.Code == g.Code && f.Fin == g.Fin &&
		bytes.Equal(f.Data, g.Data) && slices.Equal(f.Acks, g.Acks)
}

// inOrder: whether an ACK's spans are as the chapter says, with numbers of any size.
func inOrder(list []api.Span) bool {
	if len(list) < 1 || len(list) > 32 {
		return false
	}
	bound := big.NewInt(greatest + 2)
	for _, s := range list {
		lo, hi := new(big.Int).SetUint64(s.Lo), new(big.Int).SetUint64(s.Hi)
		if new(big.Int).Sub(bound, hi).Cmp(big.NewInt(2)) < 0 || lo.Cmp(hi) > 0 {
			return false
		}
		bound = lo
	}
	return true
}

// sum: whether a and b together are up to the greatest short number.
func sum(a, b uint64) bool {
	all := new(big.Int).Add(new(big.Int).SetUint64(a), new(big.Int).SetUint64(b))
	return all.Cmp(big.NewInt(greatest)) <= 0
}

// wanted: what Encode has to answer, by the chapter's words.
func wanted(f api.Frame) ([]byte, api.Errno) {
	if len(f.Data) > 2048 {
		return nil, 8
	}
	if len(f.Data) != 0 && !slices.Contains(withData, f.Kind) {
		return nil, 5
	}
	if !slices.Contains(kinds, f.Kind) {
		return nil, 6
	}
	if f.Kind == 2 && !inOrder(f.Acks) {
		return nil, 5
	}
	if (f.Kind == 6 || f.Kind == 8) && !sum(f.Off, uint64(len(f.Data))) {
		return nil, 2
	}
	list := numbers(f)
	if slices.Max(list) > greatest {
		return nil, 2
	}
	return append(shorts(list...), f.Data...), 0
}

// encodes: Encode answers just the bytes that are wanted, and they are parsed to what the kind has of the frame.
func encodes(t *testing.T, f api.Frame) {
	t.Helper()
	want, e := wanted(f)
	if e != api.OK {
		t.Fatalf("%+v isn't right", f)
	}
	got, e := Encode(f)
	if e != api.OK || !bytes.Equal(got, want) {
		t.Fatalf("Encode(%+v): %x, error %d, not %x", f, got, e, want)
	}
	list, e := Parse(got)
	if f.Kind == api.FPadding && len(list) == 0 && e == api.OK {
		return
	}
	if e != api.OK || len(list) != 1 || !same(list[0], plain(f)) {
		t.Fatalf("Parse(%x): %+v, error %d, not %+v", got, list, e, plain(f))
	}
}

// refused: Encode answers the error, and nothing beside it.
func refused(t *testing.T, f api.Frame, want api.Errno) {
	t.Helper()
	if got, e := Encode(f); e != want || len(got) != 0 {
		t.Fatalf("Encode of kind %d, Id %d, Off %d, N %d, Code %d, %d bytes, spans %v: %x, error %d, not %d", f.Kind, f.Id, f.Off, f.N, f.Code, len(f.Data), f.Acks, got, e, want)
	}
}

// agrees: Encode answers what is wanted, whatever that is.
func agrees(t *testing.T, f api.Frame) {
	t.Helper()
	if _, e := wanted(f); e != api.OK {
		refused(t, f, e)
	} else {
		encodes(t, f)
	}
}

// simple: a frame of a kind that is right, with all that its kind has, and nothing else.
func simple(kind uint64) api.Frame {
	return plain(api.Frame{Kind: kind, Id: 4, Off: 70, N: 9, Code: 300, Fin: true, Data: []byte("abc"), Acks: []api.Span{{Lo: 5, Hi: 7}, {Lo: 2, Hi: 2}}})
}

// overfull: a frame of a kind that is right, with something in each field that its kind doesn't have, too great where it is a number.
func overfull(kind uint64) api.Frame {
	f := simple(kind)
	for _, letter := range "ionc" {
		if !strings.ContainsRune(uses(f), letter) {
			*place(&f, letter) = math.MaxUint64
		}
	}
	f.Fin = true
	if kind != api.FAck {
		f.Acks = []api.Span{{Lo: 9, Hi: 3}, {Lo: 1 << 63, Hi: math.MaxUint64}}
	}
	return f
}

// number: one by chance, of as many bits as chance has it.
func number(r *rand.Rand) uint64 { return r.Uint64() >> (2 + r.Intn(62)) }

// spans: some by chance that are right.
func spans(r *rand.Rand) []api.Span {
	list := make([]api.Span, 1+r.Intn(32))
	lo := number(r)>>r.Intn(8) + 2
	for i := len(list) - 1; i >= 0; i-- {
		list[i] = api.Span{Lo: lo, Hi: lo + number(r)>>8}
		lo = list[i].Hi + 2 + number(r)>>8*uint64(r.Intn(2))
	}
	if list[0].Hi > greatest {
		return []api.Span{{Lo: 0, Hi: greatest}}
	}
	return list
}

// anyFrame: one by chance that is right.
func anyFrame(r *rand.Rand) api.Frame {
	f := api.Frame{Kind: kinds[r.Intn(len(kinds))], Id: number(r), Off: number(r) * uint64(r.Intn(2)), N: number(r), Code: number(r), Fin: r.Intn(2) == 0}
	if slices.Contains(withData, f.Kind) {
		f.Data = chance(r, r.Intn(1<<r.Intn(12)))
		f.Off -= min(f.Off, uint64(len(f.Data)))
	}
	if f.Kind == api.FAck {
		f.Acks = spans(r)
	}
	return f
}

func TestExamples(t *testing.T) { // P11.1, P11.2
	for _, v := range []struct {
		f    api.Frame
		text string
	}{
		{api.Frame{Kind: api.FStream, Id: 4, Fin: true, Data: []byte("ab")}, "0b 04 02 61 62"},
		{api.Frame{Kind: api.FAck, Acks: []api.Span{{Lo: 5, Hi: 7}, {Lo: 2, Hi: 2}}}, "02 07 00 01 02 01 00"},
	} {
		if got, e := Encode(v.f); e != api.OK || !bytes.Equal(got, unhex(v.text)) {
			t.Errorf("Encode(%+v): %x, error %d, not %s", v.f, got, e, v.text)
		}
		list, e := Parse(unhex(v.text))
		if e != api.OK || len(list) != 1 || !same(list[0], v.f) {
			t.Errorf("Parse(%s): %+v, error %d", v.text, list, e)
		}
	}
}

// TestPublished: what RFC 9001's samples carry, whose kinds are written alike.
func TestPublished(t *testing.T) { // P11.1, P11.2
	client := unhex("060040f1010000ed0303ebf8fa56f12939b9584a3896472ec40bb863cfd3e86804fe3a47f06a2b69484c00000413011302010000c000000010000e00000b6578" +
		"616d706c652e636f6dff01000100000a00080006001d0017001800100007000504616c706e000500050100000000003300260024001d00209370b2c9caa47fba" +
		"baf4559fedba753de171fa71f50f1ce15d43e994ec74d748002b0003020304000d0010000e0403050306030203080408050806002d00020101001c0002400100" +
		"3900320408ffffffffffffffff05048000ffff07048000ffff0801100104800075300901100f088394c8f03e51570806048000ffff")
	server := unhex("02000000000600405a020000560303eefce7f7b37ba1d1632e96677825ddf73988cfc79825df566dc5430b9a045a1200130100002e00330024001d00209d3c94" +
		"0d89690b84d08a60993c144eca684d1081287c834d5311bcf32bb9da1a002b00020304")
	if len(client) != 245 || len(server) != 99 {
		t.Fatalf("samples of %d and %d bytes", len(client), len(server))
	}
	ack := api.Frame{Kind: api.FAck, Acks: []api.Span{{}}}
	hello := api.Frame{Kind: api.FCrypto, Data: client[4:]}
	answer := api.Frame{Kind: api.FCrypto, Data: server[9:]}
	for _, v := range []struct {
		b    []byte
		list []api.Frame
	}{
		{append(client, make([]byte, 917)...), []api.Frame{hello}},
		{server, []api.Frame{ack, answer}},
		{[]byte{1}, []api.Frame{{Kind: api.FPing}}},
	} {
		list, e := Parse(v.b)
		if e != api.OK || !slices.EqualFunc(list, v.list, same) {
			t.Fatalf("Parse(%x): %+v, error %d", v.b, list, e)
		}
		var all []byte
		for _, f := range list {
			b, e := Encode(f)
			if e != api.OK {
				t.Fatalf("Encode(%+v): error %d", f, e)
			}
			all = append(all, b...)
		}
		if !bytes.HasPrefix(v.b, all) || len(bytes.Trim(v.b[len(all):], "\x00")) > 0 {
			t.Fatalf("Encode: %x, not %x", all, v.b)
		}
	}
}

// TestAsks: by the kind alone, whatever else a frame has, and of kinds that there aren't, too.
func TestAsks(t *testing.T) { // P11.1
	for _, kind := range append(others(), kinds...) {
		want := kind != 0 && kind != 2 && kind != 28
		for _, f := range []api.Frame{
			{Kind: kind}, overfull(kind), {Kind: kind, Data: make([]byte, 5000)}, {Kind: kind, Fin: true, Acks: []api.Span{{Lo: 2}}},
			{Kind: kind, Id: 2, Off: 2, N: 2, Code: 2}, {Kind: kind, Id: 1, Off: 1, N: 1, Code: 1}, {Kind: kind, Id: 28, Off: 28, N: 28, Code: 28},
		} {
			if got := Asks(f); got != want {
				t.Errorf("Asks of kind %d: %t", kind, got)
			}
		}
	}
}

// TestKinds: each is written as the chapter's table says, here by hand.
func TestKinds(t *testing.T) { // P11.1, P11.2
	for _, v := range []struct {
		f    api.Frame
		text string
	}{
		{api.Frame{Kind: api.FPadding}, "00"},
		{api.Frame{Kind: api.FPing}, "01"},
		{api.Frame{Kind: api.FAck, N: 300, Acks: []api.Span{{Lo: 90, Hi: 100}}}, "02 4064 412c 00 0a"},
		{api.Frame{Kind: api.FAck, N: 1, Acks: []api.Span{{Lo: 90, Hi: 100}, {Lo: 3, Hi: 18}, {Lo: 0, Hi: 1}}}, "02 4064 01 02 0a 4046 0f 00 01"},
		{api.Frame{Kind: api.FReset, Id: 1, Code: 64, N: 16384}, "04 01 4040 80004000"},
		{api.Frame{Kind: api.FStop, Id: 64, Code: 3}, "05 4040 03"},
		{api.Frame{Kind: api.FCrypto, Off: 0, Data: []byte("xyz")}, "06 00 03 78797a"},
		{api.Frame{Kind: api.FCrypto, Off: 1 << 30}, "06 c000000040000000 00"},
		{api.Frame{Kind: api.FStream, Id: 7}, "0a 07 00"},
		{api.Frame{Kind: api.FStream, Id: 7, Fin: true}, "0b 07 00"},
		{api.Frame{Kind: api.FStream, Id: 7, Off: 65, Data: []byte("x")}, "0e 07 4041 01 78"},
		{api.Frame{Kind: api.FStream, Id: 7, Off: 65, Fin: true, Data: []byte("x")}, "0f 07 4041 01 78"},
		{api.Frame{Kind: api.FMaxData, N: 16383}, "10 7fff"},
		{api.Frame{Kind: api.FMaxStream, Id: 2, N: 63}, "11 02 3f"},
		{api.Frame{Kind: api.FMaxStreams, N: 1}, "12 01"},
		{api.Frame{Kind: api.FClose, Code: 26}, "1c 1a 00"},
		{api.Frame{Kind: api.FClose, Code: 1, Data: []byte("why")}, "1c 01 03 776879"},
		{api.Frame{Kind: api.FDone}, "1e"},
	} {
		if got, e := Encode(v.f); e != api.OK || !bytes.Equal(got, unhex(v.text)) {
			t.Errorf("Encode(%+v): %x, error %d, not %s", v.f, got, e, v.text)
		}
		list, e := Parse(unhex(v.text))
		if v.f.Kind == api.FPadding && len(list) == 0 && e == api.OK {
			continue
		}
		if e != api.OK || len(list) != 1 || !same(list[0], v.f) {
			t.Errorf("Parse(%s): %+v, error %d, not %+v", v.text, list, e, v.f)
		}
	}
}

// TestOtherFields: what a kind doesn't have isn't looked at, and isn't parsed.
func TestOtherFields(t *testing.T) { // P11.1, P11.2, R3
	for _, kind := range kinds {
		encodes(t, simple(kind))
		encodes(t, overfull(kind))
		if kind != api.FAck {
			for _, acks := range [][]api.Span{{}, {{Lo: 1}}, make([]api.Span, 33), {{Lo: 5, Hi: 7}, {Lo: 2, Hi: 2}}} {
				f := simple(kind)
				f.Acks = acks
				encodes(t, f)
			}
		}
	}
}

// TestNoSuchKind: whatever fields there are beside it.
func TestNoSuchKind(t *testing.T) { // P11.1
	for _, kind := range others() {
		refused(t, api.Frame{Kind: kind}, api.ErrKind)
		refused(t, api.Frame{Kind: kind, Data: []byte{}}, api.ErrKind)
		refused(t, api.Frame{Kind: kind, Id: 1 << 62, Off: 1 << 62, N: 1 << 62, Code: 1 << 62, Fin: true, Acks: []api.Span{{Lo: 9, Hi: 3}}}, api.ErrKind)
		refused(t, api.Frame{Kind: kind, Off: math.MaxUint64, Acks: make([]api.Span, 40)}, api.ErrKind)
		refused(t, api.Frame{Kind: kind, Off: 1 << 62, Data: []byte{0}}, api.ErrForm)
		refused(t, api.Frame{Kind: kind, Off: 1 << 62, Data: make([]byte, 2048)}, api.ErrForm)
		refused(t, api.Frame{Kind: kind, Off: 1 << 62, Data: make([]byte, 2049)}, api.ErrLong)
	}
	r := rand.New(rand.NewSource(1))
	for range 20000 {
		if kind := r.Uint64() >> r.Intn(58); !slices.Contains(kinds, kind) {
			refused(t, api.Frame{Kind: kind}, api.ErrKind)
		}
	}
}

// TestStream: with Fin and without, with each kind of Off, Id and Data.
func TestStream(t *testing.T) { // P11.1, P11.2
	for _, fin := range []bool{false, true} {
		for _, off := range limits {
			for _, id := range limits {
				for _, size := range []int{0, 1, 2, 63, 64} {
					if sum(off, uint64(size)) {
						encodes(t, api.Frame{Kind: api.FStream, Id: id, Off: off, Fin: fin, Data: filled(size)})
					}
				}
			}
		}
	}
}

// TestDataSizes: up to 2048 bytes with kinds that have them; none with those that have none.
func TestDataSizes(t *testing.T) { // P11.1
	if api.MaxData != 2048 {
		t.Fatal("the greatest size")
	}
	for _, kind := range kinds {
		f := simple(kind)
		for _, none := range [][]byte{nil, {}, make([]byte, 0, 9)} {
			f.Data = none
			encodes(t, f)
		}
		for _, size := range []int{1, 2, 63, 64, 65, 255, 256, 1200, 2047, 2048} {
			f.Data = filled(size)
			if slices.Contains(withData, kind) {
				encodes(t, f)
			} else {
				refused(t, f, api.ErrForm)
			}
		}
		for _, size := range []int{2049, 2050, 4096, 16384, 65535, 65536, 65537, 1 << 20} {
			f.Data = make([]byte, size)
			refused(t, f, api.ErrLong)
		}
	}
}

// TestOffEnds: Off and how many bytes there are go to just the greatest number, and one beyond.
func TestOffEnds(t *testing.T) { // P11.1, P11.2
	for _, size := range []uint64{0, 1, 2, 63, 64, 2047, 2048} {
		for _, kind := range []uint64{api.FCrypto, api.FStream} {
			for _, fin := range []bool{false, true} {
				f := api.Frame{Kind: kind, Id: 4, Fin: fin, Data: filled(int(size))}
				for less := range uint64(3) {
					f.Off = greatest - size - less
					encodes(t, f)
				}
				for _, off := range []uint64{greatest - size + 1, greatest - size + 2, greatest, greatest + 1, 1<<63 - size, 1 << 63, 3<<62 - size, math.MaxUint64 - size, -size, 1 - size, math.MaxUint64} {
					if f.Off = off; !sum(off, size) {
						refused(t, f, api.ErrRange)
					}
				}
			}
		}
		encodes(t, api.Frame{Kind: api.FClose, Off: greatest - size + 1, Data: filled(int(size))})
		encodes(t, api.Frame{Kind: api.FClose, Off: math.MaxUint64, Data: filled(int(size))})
	}
}

// TestFields: each number at its limits and beyond, in kinds that have it and in those that don't look at it.
func TestFields(t *testing.T) { // P11.1, P11.2
	for _, kind := range kinds {
		for _, letter := range "ionc" {
			for _, size := range []int{0, 3} {
				f := simple(kind)
				if f.Data = nil; slices.Contains(withData, kind) {
					f.Data = filled(size)
				}
				for _, n := range limits {
					*place(&f, letter) = n
					agrees(t, f)
				}
				for _, n := range tooGreat {
					*place(&f, letter) = n
					if strings.ContainsRune(uses(f), letter) {
						refused(t, f, api.ErrRange)
					} else {
						encodes(t, f)
					}
				}
			}
		}
	}
}

// TestAllFields: all that a kind has at once, so that none stands for another.
func TestAllFields(t *testing.T) { // P11.1, P11.2
	for _, kind := range kinds {
		for _, i := range limits {
			for _, n := range append(tooGreat, limits...) {
				f := simple(kind)
				f.Id, f.N, f.Code = i, n, greatest-i
				agrees(t, f)
				f.Id, f.N, f.Code = n, i, 0
				agrees(t, f)
				f.Id, f.N, f.Code = 0, 1, n
				agrees(t, f)
			}
		}
	}
}

// wrongSpans: spans that aren't right.
var wrongSpans = [][]api.Span{
	nil,
	{},
	{{Lo: 1, Hi: 0}},
	{{Lo: 8, Hi: 7}},
	{{Lo: greatest + 1, Hi: greatest + 1}},
	{{Lo: 0, Hi: greatest + 1}},
	{{Lo: 0, Hi: 1 << 63}},
	{{Lo: 0, Hi: math.MaxUint64 - 1}},
	{{Lo: 0, Hi: math.MaxUint64}},
	{{Lo: math.MaxUint64, Hi: 0}},
	{{Lo: math.MaxUint64, Hi: math.MaxUint64}},
	{{Lo: 5, Hi: 7}, {Lo: 4, Hi: 4}},
	{{Lo: 5, Hi: 7}, {Lo: 2, Hi: 4}},
	{{Lo: 5, Hi: 7}, {Lo: 5, Hi: 5}},
	{{Lo: 5, Hi: 7}, {Lo: 2, Hi: 6}},
	{{Lo: 5, Hi: 7}, {Lo: 5, Hi: 7}},
	{{Lo: 5, Hi: 7}, {Lo: 0, Hi: 9}},
	{{Lo: 5, Hi: 7}, {Lo: 8, Hi: 8}},
	{{Lo: 5, Hi: 7}, {Lo: 9, Hi: 9}},
	{{Lo: 2, Hi: 2}, {Lo: 5, Hi: 7}},
	{{Lo: 5, Hi: 7}, {Lo: 3, Hi: 2}},
	{{Lo: 5, Hi: 7}, {Lo: 2, Hi: 0}},
	{{Lo: 5, Hi: 7}, {Lo: 0, Hi: math.MaxUint64}},
	{{Lo: 5, Hi: 7}, {Lo: 0, Hi: math.MaxUint64 - 1}},
	{{Lo: 5, Hi: 7}, {Lo: math.MaxUint64, Hi: math.MaxUint64}},
	{{Lo: 0, Hi: 7}, {Lo: 0, Hi: 0}},
	{{Lo: 0, Hi: 0}, {Lo: 0, Hi: 0}},
	{{Lo: 1, Hi: 1}, {Lo: 0, Hi: 0}},
	{{Lo: 20, Hi: 30}, {Lo: 10, Hi: 18}, {Lo: 9, Hi: 9}},
	{{Lo: 20, Hi: 30}, {Lo: 10, Hi: 18}, {Lo: 19, Hi: 19}},
	{{Lo: 20, Hi: 30}, {Lo: 19, Hi: 19}, {Lo: 10, Hi: 17}},
	{{Lo: 20, Hi: 30}, {Lo: 2, Hi: 3}, {Lo: 10, Hi: 18}},
}

// ladder: so many spans, the last one at lo, each of so many numbers, so many missing between two.
func ladder(count int, lo, length, missing uint64) []api.Span {
	list := make([]api.Span, count)
	for i := count - 1; i >= 0; i-- {
		list[i] = api.Span{Lo: lo, Hi: lo + length - 1}
		lo += length + missing
	}
	return list
}

func TestSpans(t *testing.T) { // P11.1, P11.2
	if api.MaxSpans != 32 {
		t.Fatal("the greatest number of spans")
	}
	for _, acks := range wrongSpans {
		refused(t, api.Frame{Kind: api.FAck, Acks: acks}, api.ErrForm)
		refused(t, api.Frame{Kind: api.FAck, N: 1 << 62, Acks: acks}, api.ErrForm)
	}
	for count := range 40 {
		for _, lo := range []uint64{0, 1, 5, 1 << 30} {
			for _, length := range []uint64{1, 2, 3, 64, 65} {
				for missing := range uint64(4) {
					f := api.Frame{Kind: api.FAck, N: 77, Acks: ladder(count, lo, length, missing)}
					if count >= 1 && count <= 32 && (missing > 0 || count == 1) {
						encodes(t, f)
					} else {
						refused(t, f, api.ErrForm)
					}
				}
			}
		}
	}
	refused(t, api.Frame{Kind: api.FAck, Acks: ladder(100000, 0, 1, 1)}, api.ErrForm)
}

// TestSpansLimits: from 0 on, up to the greatest number, one and many between.
func TestSpansLimits(t *testing.T) { // P11.1, P11.2
	for _, acks := range [][]api.Span{
		{{Lo: 0, Hi: 0}},
		{{Lo: 0, Hi: greatest}},
		{{Lo: greatest, Hi: greatest}},
		{{Lo: greatest, Hi: greatest}, {Lo: 0, Hi: 0}},
		{{Lo: greatest, Hi: greatest}, {Lo: greatest - 2, Hi: greatest - 2}},
		{{Lo: greatest, Hi: greatest}, {Lo: 0, Hi: greatest - 2}},
		{{Lo: 2, Hi: greatest}, {Lo: 0, Hi: 0}},
		{{Lo: 5, Hi: 7}, {Lo: 3, Hi: 3}},
		{{Lo: 5, Hi: 7}, {Lo: 0, Hi: 3}},
		{{Lo: 5, Hi: 7}, {Lo: 2, Hi: 2}},
		{{Lo: 4, Hi: 4}, {Lo: 2, Hi: 2}, {Lo: 0, Hi: 0}},
	} {
		for _, n := range limits {
			encodes(t, api.Frame{Kind: api.FAck, N: n, Acks: acks})
		}
		for _, n := range tooGreat {
			refused(t, api.Frame{Kind: api.FAck, N: n, Acks: acks}, api.ErrRange)
		}
	}
}

// TestAllSmallSpans: all that there are of up to three with numbers up to 5.
func TestAllSmallSpans(t *testing.T) { // P11.1
	var one []api.Span
	for lo := range uint64(6) {
		for hi := range uint64(6) {
			one = append(one, api.Span{Lo: lo, Hi: hi})
		}
	}
	for _, a := range one {
		agrees(t, api.Frame{Kind: api.FAck, Acks: []api.Span{a}})
		for _, b := range one {
			agrees(t, api.Frame{Kind: api.FAck, Acks: []api.Span{a, b}})
			for _, c := range one {
				agrees(t, api.Frame{Kind: api.FAck, Acks: []api.Span{a, b, c}})
			}
		}
	}
}

// TestOrderOfErrors: of several the first in the order of the promise.
func TestOrderOfErrors(t *testing.T) { // P11.1, R2
	long, some := make([]byte, 2049), []byte{1}
	wrong, right := []api.Span{{Lo: 2, Hi: 1}}, []api.Span{{Lo: 1, Hi: 2}}
	const great = 1 << 62
	for _, v := range []struct {
		f api.Frame
		e api.Errno
	}{
		{api.Frame{Kind: 3, Data: long}, api.ErrLong},
		{api.Frame{Kind: math.MaxUint64, Data: long}, api.ErrLong},
		{api.Frame{Kind: api.FPing, Data: long}, api.ErrLong},
		{api.Frame{Kind: api.FAck, Data: long, Acks: wrong, N: great}, api.ErrLong},
		{api.Frame{Kind: api.FAck, Data: long, Acks: right, N: great}, api.ErrLong},
		{api.Frame{Kind: api.FReset, Data: long, Id: great}, api.ErrLong},
		{api.Frame{Kind: api.FCrypto, Data: long, Off: great}, api.ErrLong},
		{api.Frame{Kind: api.FStream, Data: long, Off: greatest, Id: great}, api.ErrLong},
		{api.Frame{Kind: api.FClose, Data: long, Code: great}, api.ErrLong},
		{api.Frame{Kind: 3, Data: some}, api.ErrForm},
		{api.Frame{Kind: 10, Data: some}, api.ErrForm},
		{api.Frame{Kind: great, Data: some}, api.ErrForm},
		{api.Frame{Kind: api.FAck, Data: some, Acks: right, N: great}, api.ErrForm},
		{api.Frame{Kind: api.FReset, Data: some, Id: great, Code: great, N: great}, api.ErrForm},
		{api.Frame{Kind: api.FStop, Data: some, Id: great}, api.ErrForm},
		{api.Frame{Kind: api.FMaxData, Data: some, N: great}, api.ErrForm},
		{api.Frame{Kind: api.FMaxStream, Data: some, N: great}, api.ErrForm},
		{api.Frame{Kind: api.FMaxStreams, Data: some, N: great}, api.ErrForm},
		{api.Frame{Kind: great, Off: great}, api.ErrKind},
		{api.Frame{Kind: 10, Off: great, Id: great}, api.ErrKind},
		{api.Frame{Kind: 3, Acks: wrong, N: great}, api.ErrKind},
		{api.Frame{Kind: api.FAck, Acks: wrong, N: great}, api.ErrForm},
		{api.Frame{Kind: api.FAck, Acks: []api.Span{{Lo: great, Hi: great}}, N: great}, api.ErrForm},
		{api.Frame{Kind: api.FAck, Acks: right, N: great}, api.ErrRange},
		{api.Frame{Kind: api.FStream, Off: great, Id: great}, api.ErrRange},
	} {
		refused(t, v.f, v.e)
		if _, e := wanted(v.f); e != v.e {
			t.Fatalf("%+v: wanted error %d, not %d", v.f, e, v.e)
		}
	}
}

// odd: a number by chance, near a limit or beyond it as often as not.
func odd(r *rand.Rand) uint64 {
	switch r.Intn(6) {
	case 0:
		return tooGreat[r.Intn(len(tooGreat))]
	case 1:
		return limits[r.Intn(len(limits))]
	case 2:
		return greatest - uint64(r.Intn(2050)) + uint64(r.Intn(3))
	}
	return number(r)
}

// TestEncodeByChance: frames that are right, and what one change or some make of them.
func TestEncodeByChance(t *testing.T) { // P11.1, P11.2, P1
	r := rand.New(rand.NewSource(2))
	for range 60000 {
		f := anyFrame(r)
		encodes(t, f)
		for range 1 + r.Intn(2) {
			switch r.Intn(9) {
			case 0:
				f.Kind = r.Uint64() >> (50 + r.Intn(14))
			case 1:
				f.Kind = kinds[r.Intn(len(kinds))]
			case 2:
				f.Data = make([]byte, r.Intn(3)*1024+r.Intn(2))
			case 3:
				f.Acks = slices.Clone(f.Acks)
				if len(f.Acks) > 0 {
					at := r.Intn(len(f.Acks))
					f.Acks[at].Lo += uint64(r.Intn(5)) - 2
					f.Acks[at].Hi += uint64(r.Intn(5)) - 2
				}
			case 4:
				f.Acks = append(spans(r), spans(r)...)
			default:
				*place(&f, rune("ionc"[r.Intn(4)])) = odd(r)
			}
		}
		agrees(t, f)
	}
}

// watch: a list with others about it, in memory of their own, and whether all is as it was.
func watch[T comparable](list []T, beside T) ([]T, func() bool) {
	about := slices.Repeat([]T{beside}, 40)
	whole := slices.Concat(about, list, about)
	before := slices.Clone(whole)
	return whole[40 : 40+len(list)], func() bool { return slices.Equal(whole, before) }
}

// overwrite: every byte another one, those in the spare room too.
func overwrite(b []byte) {
	b = b[:cap(b)]
	for i := range b {
		b[i] = ^b[i]
	}
}

// TestFrameStays: what is handed to Encode and Asks stays as it was, what stands about it and its spare room too; and the bytes answered aren't its own.
func TestFrameStays(t *testing.T) { // P11.1, R6
	r := rand.New(rand.NewSource(3))
	for range 5000 {
		f := anyFrame(r)
		if r.Intn(3) == 0 {
			f.Kind = kinds[r.Intn(len(kinds))]
			f.N = odd(r)
		}
		data, dataSame := watch(f.Data, 0xee)
		acks, acksSame := watch(f.Acks, api.Span{Lo: 3, Hi: 4})
		f.Data, f.Acks = data, acks
		Asks(f)
		one, e := Encode(f)
		two, _ := Encode(f)
		if !dataSame() || !acksSame() {
			t.Fatalf("Encode of kind %d changed what it was given", f.Kind)
		}
		want, wantError := wanted(f)
		if e != wantError {
			t.Fatalf("Encode of kind %d: error %d, not %d", f.Kind, e, wantError)
		}
		overwrite(one)
		if !dataSame() || !acksSame() {
			t.Fatalf("Encode of kind %d answers what it was given", f.Kind)
		}
		overwrite(data)
		clear(acks)
		if !bytes.Equal(two, want) {
			t.Fatalf("Encode of kind %d answers what it was given, or what it answered before", f.Kind)
		}
	}
}

// TestArgumentsAlone: whatever was called before, and whatever is called at once, the same is answered.
func TestArgumentsAlone(t *testing.T) { // P11.1, P11.2, R8
	var all []byte
	var list []api.Frame
	for _, kind := range kinds {
		b, e := Encode(simple(kind))
		if e != api.OK {
			t.Fatal(e)
		}
		all = append(all, b...)
		if kind != api.FPadding {
			list = append(list, simple(kind))
		}
	}
	var group sync.WaitGroup
	for worker := range 8 {
		group.Go(func() {
			r := rand.New(rand.NewSource(int64(worker)))
			for range 300 {
				Encode(anyFrame(r))
				Parse(chance(r, r.Intn(30)))
				Encode(api.Frame{Kind: api.FStop, Code: 1 << 62})
				if got, e := Parse(all); e != api.OK || !slices.EqualFunc(got, list, same) {
					t.Errorf("Parse: %+v, error %d", got, e)
				}
				at := 0
				for _, kind := range kinds {
					got, e := Encode(simple(kind))
					if e != api.OK || !bytes.HasPrefix(all[at:], got) || Asks(simple(kind)) != Asks(api.Frame{Kind: kind}) {
						t.Errorf("Encode of kind %d: %x, error %d", kind, got, e)
					}
					at += len(got)
				}
			}
		})
	}
	group.Wait()
}
