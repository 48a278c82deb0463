package guard

import (
	"bytes"
	libraryaes "crypto/aes"
	librarycipher "crypto/cipher"
	"crypto/hkdf"
	"crypto/sha256"
	"encoding/binary"
	"encoding/hex"
	"math"
	"math/rand"
	"slices"
	"strings"
	"sync"
	"testing"

	"skiff/aes"
	"skiff/api"
	"skiff/head"
	"skiff/mac"
)

// unhex: the bytes that a text of base sixteen tells, blanks left out.
func unhex(text string) []byte {
	b, err := hex.DecodeString(strings.ReplaceAll(text, " ", ""))
	if err != nil {
		panic(err)
	}
	return b
}

// chance: so many bytes by chance.
func chance(r *rand.Rand, n int) []byte {
	b := make([]byte, n)
	r.Read(b)
	return b
}

// chanceKeys: keys by chance, each by itself.
func chanceKeys(r *rand.Rand) Keys {
	return Keys{aes.Block(chance(r, 16)), [12]byte(chance(r, 12)), aes.Block(chance(r, 16))}
}

// chanceHead: a head of a space, with names by chance.
func chanceHead(r *rand.Rand, space int) api.Head {
	return api.Head{Space: space, To: chance(r, 8), From: chance(r, 8)}
}

// The places where the number begins, by space.
var starts = []int{26, 25, 9}

// wantLabel: the library's bytes out of a secret, for a label without a context.
func wantLabel(secret []byte, label string, n int) []byte {
	info := append([]byte{0, byte(n), byte(6 + len(label))}, "tls13 "+label...)
	b, err := hkdf.Expand(sha256.New, secret, string(append(info, 0)), n)
	if err != nil {
		panic(err)
	}
	return b
}

// wantKeys: the keys of a secret, by the library.
func wantKeys(secret api.Key) Keys {
	return Keys{
		Key:   aes.Block(wantLabel(secret[:], "quic key", 16)),
		Nonce: [12]byte(wantLabel(secret[:], "quic iv", 12)),
		Mask:  aes.Block(wantLabel(secret[:], "quic hp", 16)),
	}
}

// wantFirst: the first packets' secrets, by the library.
func wantFirst(id []byte) (client, server api.Key) {
	s, err := hkdf.Extract(sha256.New, id, unhex("38762cf7f55934b34d179ae6a4c80cadccbb7f0a"))
	if err != nil {
		panic(err)
	}
	return api.Key(wantLabel(s, "client in", 32)), api.Key(wantLabel(s, "server in", 32))
}

// libraryBlocks: the library's AES by a key.
func libraryBlocks(key aes.Block) librarycipher.Block {
	c, err := libraryaes.NewCipher(key[:])
	if err != nil {
		panic(err)
	}
	return c
}

// librarySeals: the library's AES-128-GCM by a key.
func librarySeals(key aes.Block) librarycipher.AEAD {
	c, err := librarycipher.NewGCM(libraryBlocks(key))
	if err != nil {
		panic(err)
	}
	return c
}

// nonceModel: a packet's nonce by P13.2's words.
func nonceModel(k Keys, pn uint64) []byte {
	nonce := slices.Clone(k.Nonce[:])
	for i, v := range binary.BigEndian.AppendUint64(nil, pn) {
		nonce[4+i] ^= v
	}
	return nonce
}

// maskModel: M by P13.2's words, of a whole packet.
func maskModel(k Keys, packet []byte, at int) []byte {
	m := make([]byte, 16)
	libraryBlocks(k.Mask).Encrypt(m, packet[at+4:at+20])
	return m
}

// hiddenModel: how many of a first byte's lowest bits are hidden: they, set.
func hiddenModel(first byte) byte {
	if first >= 128 {
		return 0b1111
	}
	return 0b11111
}

// wrap: a packet by P13.2's words, of a head up to the number (at) and with it, whatever its bits are.
func wrap(k Keys, ahead []byte, at int, pn uint64, b []byte) []byte {
	packet := append(slices.Clone(ahead), librarySeals(k.Key).Seal(nil, nonceModel(k, pn), b, ahead)...)
	m := maskModel(k, packet, at)
	packet[0] ^= m[0] & hiddenModel(ahead[0])
	for i := at; i < len(ahead); i++ {
		packet[i] ^= m[1+i-at]
	}
	return packet
}

// shortModel: how many bytes of a number are sent, by P12.1's words.
func shortModel(pn, acked uint64) int {
	for n := 1; n < 4; n++ {
		if 2*(pn-acked)+1 < 1<<(8*n) {
			return n
		}
	}
	return 4
}

// headModel: a head by chapter 12's words, for so many bytes behind it.
func headModel(h api.Head, pn uint64, n, size int) []byte {
	number := binary.BigEndian.AppendUint64(nil, pn)[8-n:]
	if h.Space == 2 {
		return slices.Concat([]byte{0x40 + byte(n) - 1}, h.To, number)
	}
	first, between := 0xc0+byte(n)-1, []byte{0}
	if h.Space == 1 {
		first, between = first+0x20, nil
	}
	long := binary.BigEndian.AppendUint16(nil, 0x4000+uint16(n+size))
	return slices.Concat([]byte{first, 0, 0, 0, 1, 8}, h.To, []byte{8}, h.From, between, long, number)
}

// sealModel: Seal by P13.2's words, of a right head.
func sealModel(k Keys, h api.Head, pn, acked uint64, b []byte) ([]byte, api.Errno) {
	if pn > 1<<62-1 || acked > pn {
		return nil, api.ErrRange
	}
	n := shortModel(pn, acked)
	b = slices.Clone(b)
	for n+len(b) < 4 {
		b = append(b, 0)
	}
	if len(b)+16 > 1200 {
		return nil, api.ErrRange
	}
	return wrap(k, headModel(h, pn, n, len(b)+16), starts[h.Space], pn, b), api.OK
}

// openModel: Open by P13.3's words.
func openModel(k Keys, b []byte, at, end int, next uint64) (uint64, []byte, api.Errno) {
	if at < 1 || end > len(b) || end < 0 || at > len(b) || at+20 > end {
		return 0, nil, api.ErrShort
	}
	b = slices.Clone(b[:end])
	m := maskModel(k, b, at)
	b[0] ^= m[0] & hiddenModel(b[0])
	n := int(b[0]%4) + 1
	number := uint64(0)
	for i := range n {
		b[at+i] ^= m[1+i]
		number = 256*number + uint64(b[at+i])
	}
	pn := head.Full(number, n, next)
	out, err := librarySeals(k.Key).Open(nil, nonceModel(k, pn), b[at+n:], b[:at+n])
	if err != nil {
		return 0, nil, api.ErrSeal
	}
	if b[0]&0b1100 != 0 || b[0] < 128 && b[0]&0b10000 != 0 {
		return 0, nil, api.ErrForm
	}
	return pn, out, api.OK
}

// filled: what a packet carries: what was handed in, with noughts behind it.
func filled(b []byte, pn, acked uint64) []byte {
	b = slices.Clone(b)
	for len(b) < 4-shortModel(pn, acked) {
		b = append(b, 0)
	}
	return b
}

// seals: that Seal answers what the model does; it answers the packet.
func seals(t *testing.T, k Keys, h api.Head, pn, acked uint64, b []byte) []byte {
	t.Helper()
	got, e := Seal(k, h, pn, acked, b)
	want, wantE := sealModel(k, h, pn, acked, b)
	if e != wantE || !bytes.Equal(got, want) {
		t.Fatalf("Seal(space %d, %d, %d, %d bytes): %x, %d, not %x, %d", h.Space, pn, acked, len(b), got, e, want, wantE)
	}
	return got
}

// opens: that Open answers a packet's number, and what it carries.
func opens(t *testing.T, k Keys, b []byte, at, end int, next, pn uint64, want []byte) {
	t.Helper()
	if got, out, e := Open(k, b, at, end, next); got != pn || !bytes.Equal(out, want) || e != api.OK {
		t.Fatalf("Open(%x, %d, %d, %d): %d, %x, %d, not %d, %x", b, at, end, next, got, out, e, pn, want)
	}
}

// shut: that Open answers an error, and nothing beside it.
func shut(t *testing.T, what string, k Keys, b []byte, at, end int, next uint64, want api.Errno) {
	t.Helper()
	if pn, out, e := Open(k, b, at, end, next); e != want || pn != 0 || out != nil {
		t.Fatalf("%s: Open(%x, %d, %d, %d): %d, %x, %d, not %d", what, b, at, end, next, pn, out, e, want)
	}
}

// check: that Open answers what the model does.
func check(t *testing.T, k Keys, b []byte, at, end int, next uint64) {
	t.Helper()
	pn, out, e := Open(k, b, at, end, next)
	wantPn, want, wantE := openModel(k, b, at, end, next)
	if pn != wantPn || !bytes.Equal(out, want) || e != wantE {
		t.Fatalf("Open(%x, %d, %d, %d): %d, %x, %d, not %d, %x, %d", b, at, end, next, pn, out, e, wantPn, want, wantE)
	}
}

// P13.1: the chapter's example.
func TestExamples(t *testing.T) {
	client, _ := First(unhex("83 94 c8 f0 3e 51 57 08"))
	if k := Of(client).Key; k != aes.Block(unhex("1f 36 96 13 dd 76 d5 46 77 30 ef cb e3 b1 a2 2d")) {
		t.Errorf("the client's Key is %x", k)
	}
}

// P13.1: the secrets and keys of RFC 9001, A.1.
func TestPublishedKeys(t *testing.T) {
	client, server := First(unhex("8394c8f03e515708"))
	for _, c := range []struct {
		what                   string
		secret                 api.Key
		want, key, nonce, mask string
	}{
		{"client", client, "c00cf151ca5be075ed0ebfb5c80323c42d6b7db67881289af4008f1f6c357aea", "1f369613dd76d5467730efcbe3b1a22d", "fa044b2f42a3fd3b46fb255c", "9f50449e04a0e810283a1e9933adedd2"},
		{"server", server, "3c199828fd139efd216c155ad844cc81fb82fa8d7446fa7d78be803acdda951b", "cf3a5331653c364c88f0f379b6067e37", "0ac1493ca1905853b0bba03e", "c206b8d9b9f0f37644430b490eeaa314"},
	} {
		if !bytes.Equal(c.secret[:], unhex(c.want)) {
			t.Errorf("the %s's secret is %x", c.what, c.secret)
		}
		want := Keys{aes.Block(unhex(c.key)), [12]byte(unhex(c.nonce)), aes.Block(unhex(c.mask))}
		if k := Of(c.secret); k != want {
			t.Errorf("the %s's keys are %x", c.what, k)
		}
	}
}

// What RFC 9001's packets carry (A.2, A.3): the client's is filled up with noughts.
const (
	clientCarries = "060040f1010000ed0303ebf8fa56f12939b9584a3896472ec40bb863cfd3e86804fe3a47f06a2b69484c00000413011302010000c000000010000e00000b6578" +
		"616d706c652e636f6dff01000100000a00080006001d0017001800100007000504616c706e000500050100000000003300260024001d00209370b2c9caa47fba" +
		"baf4559fedba753de171fa71f50f1ce15d43e994ec74d748002b0003020304000d0010000e0403050306030203080408050806002d00020101001c0002400100" +
		"3900320408ffffffffffffffff05048000ffff07048000ffff0801100104800075300901100f088394c8f03e51570806048000ffff"
	serverCarries = "02000000000600405a020000560303eefce7f7b37ba1d1632e96677825ddf73988cfc79825df566dc5430b9a045a1200130100002e00330024001d00209d3c94" +
		"0d89690b84d08a60993c144eca684d1081287c834d5311bcf32bb9da1a002b00020304"
	serverPacket = "cf000000010008f067a5502a4262b5004075c0d95a482cd0991cd25b0aac406a5816b6394100f37a1c69797554780bb38cc5a99f5ede4cf73c3ec2493a1839b3" +
		"dbcba3f6ea46c5b7684df3548e7ddeb9c3bf9c73cc3f3bded74b562bfb19fb84022f8ef4cdd93795d77d06edbb7aaf2f58891850abbdca3d20398c276456cbc42158407dd074ee"
)

// P13.3: packets of RFC 9001 (A.2, A.3) are opened. Of the names in their heads one has no bytes, so that no head of chapter 12 is like them; Open doesn't ask.
func TestPublishedPackets(t *testing.T) {
	client, server := First(unhex("8394c8f03e515708"))
	carried := append(unhex(clientCarries), make([]byte, 1162-245)...)
	packet := wrap(Of(client), unhex("c300000001088394c8f03e5157080000449e00000002"), 18, 2, carried)
	first := unhex("c000000001088394c8f03e5157080000449e7b9aec34d1b1c98dd7689fb8ec11d242b123dc9bd8bab936b47d92ec356c0bab7df5976d27cd449f63300099f399")
	if len(packet) != 1200 || !bytes.HasPrefix(packet, first) || !bytes.HasSuffix(packet, unhex("e221af44860018ab0856972e194cd934")) {
		t.Fatalf("the model: the client's packet is %x", packet)
	}
	for _, next := range []uint64{0, 1, 2, 3, 1 << 30} {
		opens(t, Of(client), packet, 18, 1200, next, 2, carried)
	}
	for _, next := range []uint64{0, 1, 2, 32768} {
		opens(t, Of(server), unhex(serverPacket), 18, 135, next, 1, unhex(serverCarries))
	}
	shut(t, "nearer to another number", Of(server), unhex(serverPacket), 18, 135, 32769, api.ErrSeal)
}

// P13.2: what RFC 9001's client carries, in each of the chapter's heads, by the keys of A.1.
func TestSealPublished(t *testing.T) {
	client, _ := First(unhex("8394c8f03e515708"))
	for space := range api.Spaces {
		h := api.Head{Space: space, To: unhex("8394c8f03e515708"), From: unhex("f067a5502a4262b5")}
		for _, acked := range []uint64{0, 1, 2} {
			seals(t, Of(client), h, 2, acked, unhex(clientCarries))
		}
	}
}

// P13.2, P13.3: a packet written by hand, with keys of noughts: whose nonce is its number, and whose mask is AES by noughts.
func TestBytes(t *testing.T) {
	h := api.Head{Space: api.SData, To: unhex("0102030405060708"), From: unhex("ffff")}
	b, e := Seal(Keys{}, h, 0, 0, nil)
	sealed := librarySeals(aes.Block{}).Seal(nil, make([]byte, 12), make([]byte, 3), unhex("40 0102030405060708 00"))
	m := make([]byte, 16)
	libraryBlocks(aes.Block{}).Encrypt(m, sealed[3:])
	want := slices.Concat([]byte{0x40 ^ m[0]&0x1f}, h.To, []byte{m[1]}, sealed)
	if e != api.OK || !bytes.Equal(b, want) {
		t.Errorf("%x, %d, not %x", b, e, want)
	}
	opens(t, Keys{}, want, 9, len(want), 0, 0, make([]byte, 3))
}

// P13.1: of many secrets each of the three by mac, one by one, and by the library.
func TestOfAny(t *testing.T) {
	r := rand.New(rand.NewSource(1301))
	list := []api.Key{{}, {1}, {31: 1}, api.Key(bytes.Repeat([]byte{255}, 32))}
	for range 500 {
		list = append(list, api.Key(chance(r, 32)))
	}
	for _, secret := range list {
		k := Of(secret)
		if k != wantKeys(secret) {
			t.Fatalf("Of(%x) is %x", secret, k)
		}
		for _, c := range []struct {
			label string
			got   []byte
			n     int
		}{{"quic key", k.Key[:], 16}, {"quic iv", k.Nonce[:], 12}, {"quic hp", k.Mask[:], 16}} {
			if want, e := mac.Label(secret, c.label, nil, c.n); e != api.OK || !bytes.Equal(c.got, want) {
				t.Fatalf("of %x %s is %x, not %x", secret, c.label, c.got, want)
			}
		}
	}
}

// P13.1, R5: First of names of no, one, eight and many bytes.
func TestFirstAny(t *testing.T) {
	r := rand.New(rand.NewSource(1302))
	names := [][]byte{nil, {}, {0}, {255}, make([]byte, 8), unhex("8394c8f03e515708")}
	for _, n := range []int{1, 2, 7, 8, 9, 20, 32, 55, 56, 63, 64, 65, 128, 1000, 100000} {
		names = append(names, chance(r, n))
	}
	for range 300 {
		names = append(names, chance(r, 8))
	}
	salt := unhex("38762cf7f55934b34d179ae6a4c80cadccbb7f0a")
	for _, id := range names {
		client, server := First(id)
		wantClient, wantServer := wantFirst(id)
		if client != wantClient || server != wantServer {
			t.Fatalf("First(%x): %x, %x, not %x, %x", id, client, server, wantClient, wantServer)
		}
		s := mac.Extract(salt, id)
		if client != mac.Key(s, "client in", nil) || server != mac.Key(s, "server in", nil) {
			t.Fatalf("First(%x): %x, %x", id, client, server)
		}
	}
	a, b := First(nil)
	if c, d := First([]byte{}); a != c || b != d {
		t.Error("First of nil isn't that of no bytes")
	}
}

// The distances at which one byte more is needed, and those beside them.
var distances = []uint64{0, 1, 126, 127, 128, 129, 32766, 32767, 32768, 32769, 1<<23 - 2, 1<<23 - 1, 1 << 23, 1<<23 + 1, 1<<31 - 1, 1 << 31, 1 << 32, 1 << 40, 1<<62 - 2, 1<<62 - 1}

// P13.2: in each space, at numbers about the edges, at each distance, of few bytes and many: the exact bytes.
func TestSealAny(t *testing.T) {
	r := rand.New(rand.NewSource(1303))
	numbers := []uint64{0, 1, 127, 128, 129, 255, 256, 65535, 65536, 1 << 24, 1<<32 - 1, 1 << 32, 0x123456789abcdef, 1 << 61, 1<<62 - 2, 1<<62 - 1}
	for space := range api.Spaces {
		for _, pn := range numbers {
			for _, far := range distances {
				if far > pn {
					continue
				}
				for _, size := range []int{0, 1, 2, 3, 4, 5, 15, 16, 17, 40} {
					seals(t, chanceKeys(r), chanceHead(r, space), pn, pn-far, chance(r, size))
				}
			}
		}
	}
}

// P13.2: how many noughts are put behind, and that they are noughts.
func TestSealFilled(t *testing.T) {
	r := rand.New(rand.NewSource(1304))
	for space := range api.Spaces {
		for i, far := range []uint64{5, 300, 70000, 1 << 25} {
			n := i + 1
			for size := range 6 {
				k, b := chanceKeys(r), bytes.Repeat([]byte{0xaa}, size)
				p := seals(t, k, chanceHead(r, space), 1<<30+far, 1<<30, b)
				want := append(b, make([]byte, max(0, 4-n-size))...)
				if len(p) != starts[space]+n+len(want)+16 {
					t.Errorf("space %d: with a number of %d and %d bytes a packet has %d", space, n, size, len(p))
				}
				opens(t, k, p, starts[space], len(p), 1<<30, 1<<30+far, want)
			}
		}
	}
}

// P13.2: every size up to the greatest, and beyond it.
func TestSealSizes(t *testing.T) {
	r := rand.New(rand.NewSource(1305))
	for space := range api.Spaces {
		for size := range 1187 {
			k, h, far := chanceKeys(r), chanceHead(r, space), distances[r.Intn(16)]
			p := seals(t, k, h, 1<<33+far, 1<<33, chance(r, size))
			if size <= 1184 != (p != nil) {
				t.Errorf("space %d: a packet of %d bytes for %d", space, len(p), size)
			}
		}
	}
}

// refused: that Seal answers ErrRange, and nothing beside it.
func refused(t *testing.T, what string, h api.Head, pn, acked uint64, b []byte) {
	t.Helper()
	if p, e := Seal(Keys{}, h, pn, acked, b); e != api.ErrRange || p != nil {
		t.Errorf("%s: Seal(%v, %d, %d, %d bytes): %x, %d", what, h, pn, acked, len(b), p, e)
	}
}

// P13.2, R2, R3: what isn't right of the numbers, of the head, and of the size, alone and together.
func TestSealErrors(t *testing.T) {
	r := rand.New(rand.NewSource(1306))
	for space := range api.Spaces {
		h := chanceHead(r, space)
		for _, c := range []struct{ pn, acked uint64 }{
			{1 << 62, 0}, {1 << 62, 1 << 62}, {1 << 62, 1<<62 - 1}, {1 << 62, 1<<62 + 1}, {1 << 63, 5}, {math.MaxUint64, math.MaxUint64}, {math.MaxUint64, 0},
			{0, 1}, {5, 6}, {5, math.MaxUint64}, {1<<62 - 1, 1 << 62}, {1<<62 - 2, 1<<62 - 1}, {0, math.MaxUint64}, {0, 1 << 63},
		} {
			refused(t, "numbers", h, c.pn, c.acked, []byte("abcd"))
			refused(t, "numbers, and the size", h, c.pn, c.acked, make([]byte, 5000))
			refused(t, "numbers, and the space", api.Head{Space: 3, To: h.To, From: h.From}, c.pn, c.acked, nil)
		}
		refused(t, "one byte too many", h, 5, 5, make([]byte, 1185))
		refused(t, "many bytes too many", h, 5, 5, make([]byte, 1<<20))
		for _, to := range []int{0, 1, 7, 9, 16} {
			refused(t, "to whom", api.Head{Space: space, To: make([]byte, to), From: h.From}, 5, 5, nil)
			refused(t, "to whom, and the size", api.Head{Space: space, To: make([]byte, to), From: h.From}, 5, 5, make([]byte, 1185))
			if from := (api.Head{Space: space, To: h.To, From: make([]byte, to)}); space != api.SData {
				refused(t, "from whom", from, 5, 5, nil)
			} else {
				seals(t, Keys{}, from, 5, 5, nil)
			}
		}
		refused(t, "nobody", api.Head{Space: space}, 5, 5, nil)
	}
	for _, space := range []int{math.MinInt, -1, 3, 4, math.MaxInt} {
		refused(t, "space", chanceHead(r, space), 5, 5, nil)
	}
}

// P13.3: what Seal gives is opened, wherever next is between what is acknowledged and the number, with bytes behind the packet and without.
func TestOpenOfSeal(t *testing.T) {
	r := rand.New(rand.NewSource(1307))
	for space := range api.Spaces {
		for _, far := range distances[:16] {
			for _, acked := range []uint64{0, 1, 200, 1<<62 - 1 - far} {
				pn := acked + far
				k, b := chanceKeys(r), chance(r, r.Intn(60))
				p := seals(t, k, chanceHead(r, space), pn, acked, b)
				end := len(p)
				p = append(p, chance(r, r.Intn(3)*r.Intn(50))...)
				for _, next := range []uint64{acked, pn, acked + far/2, acked + uint64(r.Int63n(int64(far)+1))} {
					opens(t, k, p, starts[space], end, next, pn, filled(b, pn, acked))
					check(t, k, p, starts[space], end, next)
				}
			}
		}
	}
}

// P13.3: where what head.Take says of the bytes is handed on, just as an endpoint does it.
func TestOpenOfTake(t *testing.T) {
	r := rand.New(rand.NewSource(1308))
	for space := range api.Spaces {
		for range 100 {
			client, server := First(chance(r, 8))
			k, h, b := Of(client), chanceHead(r, space), chance(r, r.Intn(1185))
			p := seals(t, k, h, 77, 70, b)
			if space != api.SData {
				p = append(p, chance(r, r.Intn(100))...)
			}
			got, at, end, e := head.Take(p)
			if e != api.OK || got.Space != space || !bytes.Equal(got.To, h.To) {
				t.Fatalf("Take(%x): %v, %d", p, got, e)
			}
			opens(t, k, p, at, end, 70, 77, filled(b, 77, 70))
			shut(t, "the other one's", Of(server), p, at, end, 70, api.ErrSeal)
		}
	}
}

// P13.3: packets of rising numbers one behind the other, in one datagram, opened one by one.
func TestDatagram(t *testing.T) {
	r := rand.New(rand.NewSource(1309))
	for _, from := range []uint64{0, 120, 1<<16 - 5, 1<<32 - 7, 1<<62 - 12} {
		k := chanceKeys(r)
		var datagram []byte
		var carried [][]byte
		for i := range uint64(12) {
			// In SData there is no end but the datagram's: only the last one may be of it.
			space := []int{0, 0, 0, 0, 1, 0, 1, 1, 1, 1, 1, 2}[i]
			h, b := chanceHead(r, space), chance(r, r.Intn(40))
			datagram = append(datagram, seals(t, k, h, from+i, from, b)...)
			carried = append(carried, filled(b, from+i, from))
		}
		for i := range uint64(12) {
			_, at, end, e := head.Take(datagram)
			if e != api.OK {
				t.Fatalf("packet %d: %d", i, e)
			}
			opens(t, k, datagram, at, end, from+i, from+i, carried[i])
			datagram = datagram[end:]
		}
		if len(datagram) > 0 {
			t.Errorf("%d bytes are left", len(datagram))
		}
	}
}

// P13.3, R2, R3: places where no packet can be, and just those where one is.
func TestOpenShort(t *testing.T) {
	r := rand.New(rand.NewSource(1310))
	great := []int{math.MinInt, math.MinInt + 1, math.MinInt + 20, -1 << 32, -21, -20, -1, 0, 1, 2, 19, 20, 21, 39, 40, 41, 59, 60, 61, 1 << 32, math.MaxInt - 20, math.MaxInt - 19, math.MaxInt - 1, math.MaxInt}
	k, b := chanceKeys(r), chance(r, 60)
	for _, at := range great {
		for _, end := range great {
			fits := at >= 1 && end <= 60 && end >= 21 && at <= end-20
			if fits {
				shut(t, "by chance", k, b, at, end, 0, api.ErrSeal)
			} else {
				shut(t, "no place", k, b, at, end, 0, api.ErrShort)
			}
			check(t, k, b, at, end, math.MaxUint64)
			shut(t, "no bytes", k, nil, at, end, 0, api.ErrShort)
			shut(t, "no bytes", k, []byte{}, at, end, 0, api.ErrShort)
			shut(t, "one byte", k, []byte{64}, at, end, 0, api.ErrShort)
		}
	}
	for at := -3; at < 64; at++ {
		for end := -3; end < 64; end++ {
			check(t, k, b, at, end, 0)
		}
	}
}

// P13.3: the shortest packet, at each place from 1 on: of it 19 bytes are too few, and 20 enough; spare room is no bytes.
func TestOpenLeast(t *testing.T) {
	r := rand.New(rand.NewSource(1311))
	for at := 1; at < 80; at++ {
		for n := 1; n <= 4; n++ {
			// Those that head.Take refuses, too: Open asks for no bits but the hidden ones.
			for _, first := range []byte{0x40, 0xc0, 0xe0, 0x00, 0x80, 0x60, 0xf0} {
				k := chanceKeys(r)
				ahead := append([]byte{first | byte(n-1)}, chance(r, at-1)...)
				ahead = append(ahead, []byte{0, 0, 0, 9}[4-n:]...)
				want := chance(r, 4-n)
				p := wrap(k, ahead, at, 9, want)
				if len(p) != at+20 {
					t.Fatalf("the model: %d bytes", len(p))
				}
				check(t, k, p, at, len(p), 9)
				opens(t, k, p, at, len(p), 9, 9, want)
				shut(t, "19 bytes", k, p, at, len(p)-1, 9, api.ErrShort)
				shut(t, "one too many", k, p, at, len(p)+1, 9, api.ErrShort)
				shut(t, "spare room", k, p[:len(p)-1], at, len(p), 9, api.ErrShort)
				shut(t, "end below at", k, p, at, at-1, 9, api.ErrShort)
				shut(t, "end at at", k, p, at, at, 9, api.ErrShort)
				shut(t, "at 0", k, p, 0, len(p), 9, api.ErrShort)
				shut(t, "below 0", k, p, -at, len(p), 9, api.ErrShort)
			}
		}
	}
}

// P13.3: a bit turned anywhere up to the end; behind it nothing counts.
func TestOpenTurned(t *testing.T) {
	r := rand.New(rand.NewSource(1312))
	for space := range api.Spaces {
		for _, far := range []uint64{0, 200, 40000, 1 << 24} {
			k, b := chanceKeys(r), chance(r, r.Intn(30))
			p := seals(t, k, chanceHead(r, space), 1<<40+far, 1<<40, b)
			end := len(p)
			p = append(p, chance(r, 10)...)
			for i := range 8 * len(p) {
				bent := slices.Clone(p)
				bent[i/8] ^= 1 << (i % 8)
				if i/8 < end {
					shut(t, "turned", k, bent, starts[space], end, 1<<40, api.ErrSeal)
				} else {
					opens(t, k, bent, starts[space], end, 1<<40, 1<<40+far, filled(b, far, 0))
				}
				check(t, k, bent, starts[space], end, 1<<40)
			}
			shut(t, "cut", k, p, starts[space], end-1, 1<<40, api.ErrSeal)
			shut(t, "too long", k, p, starts[space], end+1, 1<<40, api.ErrSeal)
			shut(t, "a byte late", k, p, starts[space]+1, end, 1<<40, api.ErrSeal)
			shut(t, "a byte early", k, p, starts[space]-1, end, 1<<40, api.ErrSeal)
			shut(t, "another number", k, p, starts[space], end, 1<<50, api.ErrSeal)
		}
	}
}

// P13.3: another secret, and keys of which one bit is another: that of the number's nonce, too.
func TestOpenOther(t *testing.T) {
	r := rand.New(rand.NewSource(1313))
	for space := range api.Spaces {
		secret := api.Key(chance(r, 32))
		k, at := Of(secret), starts[space]
		p := seals(t, k, chanceHead(r, space), 500, 400, chance(r, 40))
		for i := range 8 * len(secret) {
			other := secret
			other[i/8] ^= 1 << (i % 8)
			shut(t, "another secret", Of(other), p, at, len(p), 400, api.ErrSeal)
		}
		for i := range 8 * 16 {
			other := k
			other.Key[i/8] ^= 1 << (i % 8)
			shut(t, "another key", other, p, at, len(p), 400, api.ErrSeal)
			other = k
			other.Nonce[i/8%12] ^= 1 << (i % 8)
			shut(t, "another nonce", other, p, at, len(p), 400, api.ErrSeal)
			other = k
			other.Mask[i/8] ^= 1 << (i % 8)
			check(t, other, p, at, len(p), 400)
		}
		shut(t, "no keys", Keys{}, p, at, len(p), 400, api.ErrSeal)
	}
}

// P13.3: every first byte, sealed as it is: ErrForm where the bits aren't all 0, but only where the seal is right.
func TestOpenForm(t *testing.T) {
	r := rand.New(rand.NewSource(1314))
	for first := range 256 {
		for _, at := range []int{1, 9, 25, 26} {
			n := first%4 + 1
			k, b := chanceKeys(r), chance(r, 3+r.Intn(30))
			ahead := append([]byte{byte(first)}, chance(r, at-1)...)
			ahead = append(ahead, []byte{0, 0, 1, 7}[4-n:]...)
			pn := uint64(7)
			if n > 1 {
				pn = 263
			}
			p := wrap(k, ahead, at, pn, b)
			if first&0x0c > 0 || first < 0x80 && first&0x10 > 0 {
				shut(t, "bits", k, p, at, len(p), pn, api.ErrForm)
			} else {
				opens(t, k, p, at, len(p), pn, pn, b)
			}
			check(t, k, p, at, len(p), pn)
			p[len(p)-1]++
			shut(t, "bits, and the seal", k, p, at, len(p), pn, api.ErrSeal)
		}
	}
}

// P13.3: numbers and what is awaited, at the edges where head.Full turns; beyond the greatest one an answer comes, too (P1).
func TestOpenNumbers(t *testing.T) {
	r := rand.New(rand.NewSource(1315))
	list := []uint64{0, 1, 127, 128, 129, 255, 256, 257, 65535, 65536, 1<<24 - 1, 1 << 24, 1<<32 - 1, 1 << 32, 1<<62 - 257, 1<<62 - 256, 1<<62 - 129, 1<<62 - 128, 1<<62 - 2, 1<<62 - 1, 1 << 62, 1 << 63, math.MaxUint64 - 300, math.MaxUint64}
	for _, pn := range list {
		for n := 1; n <= 4; n++ {
			k, at := chanceKeys(r), 9
			ahead := append([]byte{0x40 | byte(n-1)}, chance(r, 8)...)
			ahead = append(ahead, binary.BigEndian.AppendUint64(nil, pn)[8-n:]...)
			p := wrap(k, ahead, at, pn, []byte("abc"))
			for _, next := range list {
				check(t, k, p, at, len(p), next)
			}
		}
	}
}

// P1, P13.3: any bytes at all, and such as are nearly right.
func TestOpenAny(t *testing.T) {
	r := rand.New(rand.NewSource(1316))
	for range 5000 {
		b := chance(r, r.Intn(80))
		check(t, chanceKeys(r), b, r.Intn(50), r.Intn(90), r.Uint64())
	}
	for range 10000 {
		k, at, n := chanceKeys(r), 1+r.Intn(30), 1+r.Intn(4)
		ahead := chance(r, at+n)
		ahead[0] = ahead[0]&^3 | byte(n-1)
		if r.Intn(2) == 0 {
			ahead[0] &^= 0x1c
		}
		pn := r.Uint64() >> (2 + r.Intn(62))
		copy(ahead[at:], binary.BigEndian.AppendUint64(nil, pn)[8-n:])
		p := wrap(k, ahead, at, pn, chance(r, 4-n+r.Intn(40)))
		end := len(p)
		p = append(p, chance(r, r.Intn(5))...)
		if r.Intn(4) == 0 {
			p[r.Intn(len(p))] ^= 1 << r.Intn(8)
		}
		if r.Intn(8) == 0 {
			end += r.Intn(7) - 3
		}
		if r.Intn(8) == 0 {
			at += r.Intn(7) - 3
		}
		next := pn + uint64(r.Intn(300))
		check(t, k, p, at, end, next-min(next, uint64(r.Intn(300))))
	}
}

// P13.1 to P13.3, R6: what is handed in stays as it was, its spare room too, and answers are new memory.
func TestMemory(t *testing.T) {
	r := rand.New(rand.NewSource(1317))
	for space := range api.Spaces {
		for _, size := range []int{0, 1, 2, 3, 4, 30} {
			room := chance(r, 100)
			before := bytes.Clone(room)
			k := chanceKeys(r)
			h, b := api.Head{Space: space, To: room[10:18], From: room[30:38]}, room[50:50+size]
			p, e := Seal(k, h, 9, 8, b)
			if e != api.OK || !bytes.Equal(room, before) {
				t.Fatalf("Seal has changed its argument: %d", e)
			}
			want := bytes.Clone(p)
			clear(room)
			if !bytes.Equal(p, want) {
				t.Error("Seal's answer changes with its argument")
			}
			copy(room, before)
			scribble(p)
			if !bytes.Equal(room, before) {
				t.Error("Seal's answer shares memory with its argument")
			}
			if again, _ := Seal(k, h, 9, 8, b); !bytes.Equal(again, want) {
				t.Error("Seal's answer hangs on what was done with an earlier one")
			}
			openMemory(t, k, want, starts[space], filled(b, 9, 8))
		}
	}
	id := append(make([]byte, 0, 40), chance(r, 8)...)
	before := bytes.Clone(id[:40])
	First(id)
	if !bytes.Equal(id[:40], before) {
		t.Error("First has changed its argument")
	}
}

// openMemory: the same of Open, with bytes ahead of what is handed in and behind it; where it refuses it, too.
func openMemory(t *testing.T, k Keys, packet []byte, at int, want []byte) {
	t.Helper()
	room := slices.Concat([]byte("ahead"), packet, []byte("behind"), make([]byte, 60))
	before := bytes.Clone(room)
	b := room[5 : 11+len(packet)]
	pn, out, e := Open(k, b, at, len(packet), 8)
	if pn != 9 || e != api.OK || !bytes.Equal(out, want) || !bytes.Equal(room, before) {
		t.Fatalf("Open: %d, %x, %d, or it has changed its argument", pn, out, e)
	}
	clear(room)
	if !bytes.Equal(out, want) {
		t.Error("Open's answer changes with its argument")
	}
	copy(room, before)
	scribble(out)
	if !bytes.Equal(room, before) {
		t.Error("Open's answer shares memory with its argument")
	}
	opens(t, k, b, at, len(packet), 8, 9, want)
	shut(t, "another end", k, b, at, len(packet)+3, 8, api.ErrSeal)
	if !bytes.Equal(room, before) {
		t.Error("Open has changed what it refuses")
	}
}

// scribble: other bytes over what was answered, its spare room too.
func scribble(b []byte) {
	b = b[:cap(b)]
	for i := range b {
		b[i] ^= 0x55
	}
}

// R8: answers depend on the arguments alone, whoever else asks meanwhile, and however often.
func TestTogether(t *testing.T) {
	var wait sync.WaitGroup
	for i := range 8 {
		wait.Go(func() {
			r := rand.New(rand.NewSource(int64(1318 + i)))
			for range 100 {
				id := chance(r, 8)
				client, _ := First(id)
				if want, _ := wantFirst(id); client != want || Of(client) != wantKeys(client) {
					t.Errorf("First(%x): %x", id, client)
				}
				k, h, pn, b := Of(client), chanceHead(r, r.Intn(3)), r.Uint64()>>2, chance(r, r.Intn(100))
				acked := pn - min(pn, r.Uint64()>>(33+r.Intn(31)))
				p, e := Seal(k, h, pn, acked, b)
				if want, _ := sealModel(k, h, pn, acked, b); e != api.OK || !bytes.Equal(p, want) {
					t.Errorf("Seal: %x, %d", p, e)
				}
				for range 2 {
					got, out, e := Open(k, p, starts[h.Space], len(p), acked)
					if got != pn || e != api.OK || !bytes.Equal(out, filled(b, pn, acked)) {
						t.Errorf("Open: %d, %x, %d", got, out, e)
					}
				}
			}
		})
	}
	wait.Wait()
}
