package gcm

import (
	"bytes"
	libraryaes "crypto/aes"
	librarycipher "crypto/cipher"
	"encoding/hex"
	"math/rand"
	"slices"
	"sync"
	"testing"

	"skiff/aes"
)

// nonce is a nonce.
type nonce = [12]byte

// unhex: the bytes that a text of base sixteen tells.
func unhex(text string) []byte {
	b, err := hex.DecodeString(text)
	if err != nil {
		panic(err)
	}
	return b
}

// filled: so many bytes that are all the same.
func filled(b byte, n int) []byte { return bytes.Repeat([]byte{b}, n) }

// chance: so many bytes by chance.
func chance(r *rand.Rand, n int) []byte {
	b := make([]byte, n)
	r.Read(b)
	return b
}

// keys: a key and a nonce by chance.
func keys(r *rand.Rand) (aes.Block, nonce) {
	return aes.Block(chance(r, 16)), nonce(chance(r, 12))
}

// turned: the bytes with one bit turned, in memory of their own.
func turned(b []byte, at int) []byte {
	b = slices.Clone(b)
	b[at/8] ^= 1 << (at % 8)
	return b
}

// library: what Go's own library seals.
func library(key aes.Block, n nonce, beside, b []byte) []byte {
	block, err := libraryaes.NewCipher(key[:])
	if err != nil {
		panic(err)
	}
	c, err := librarycipher.NewGCM(block)
	if err != nil {
		panic(err)
	}
	return c.Seal(nil, n[:], b, beside)
}

// opens: sealed bytes are opened to just these.
func opens(t *testing.T, key aes.Block, n nonce, beside, sealed, want []byte) {
	t.Helper()
	if got, ok := Open(key, n, beside, sealed); !ok || !bytes.Equal(got, want) {
		t.Fatalf("Open(%x, %x, %d bytes beside, %d bytes): %x, %v, not %x", key, n, len(beside), len(sealed), got, ok, want)
	}
}

// shut: of bytes nothing is opened.
func shut(t *testing.T, what string, key aes.Block, n nonce, beside, b []byte) {
	t.Helper()
	if got, ok := Open(key, n, beside, b); ok || len(got) != 0 {
		t.Fatalf("%s: Open(%x, %x, %x, %x): %x, %v", what, key, n, beside, b, got, ok)
	}
}

// check: bytes are sealed as the library does, and opened again; it answers them sealed.
func check(t *testing.T, key aes.Block, n nonce, beside, b []byte) []byte {
	t.Helper()
	got, want := Seal(key, n, beside, b), library(key, n, beside, b)
	if !bytes.Equal(got, want) {
		t.Fatalf("Seal(%x, %x, %d bytes beside, %d bytes): %x, not %x", key, n, len(beside), len(b), got, want)
	}
	opens(t, key, n, beside, want, b)
	return got
}

// TestPublished: what the mode's own paper, NIST's files, IEEE 802.1AE, RFC 8448 and RFC 9001 tell.
func TestPublished(t *testing.T) { // P9.1
	long := "d9313225f88406e5a55909c5aff5269a86a7a9531534f7da2e4c303d8a318a721c3c0c95956809532fcf0e2449a6b525b16aedf5aa0de657ba637b391aafd255"
	sealed := "42831ec2217774244b7221b784d0d49ce3aa212f2c02a4e035c17e2329aca12e21d514b25466931c7d8f6a5aac84aa051ba30b396a0aac973d58e091473f5985"
	for _, v := range []struct{ what, key, nonce, beside, b, sealed, tag string }{
		{"paper 1", "00000000000000000000000000000000", "000000000000000000000000", "", "", "", "58e2fccefa7e3061367f1d57a4e7455a"},
		{"paper 2", "00000000000000000000000000000000", "000000000000000000000000", "", "00000000000000000000000000000000", "0388dace60b6a392f328c2b971b2fe78", "ab6e47d42cec13bdf53a67b21257bddf"},
		{"paper 3", "feffe9928665731c6d6a8f9467308308", "cafebabefacedbaddecaf888", "", long, sealed, "4d5c2af327cd64a62cf35abd2ba6fab4"},
		{"paper 4", "feffe9928665731c6d6a8f9467308308", "cafebabefacedbaddecaf888", "feedfacedeadbeeffeedfacedeadbeefabaddad2", long[:120], sealed[:120], "5bc94fbc3221a5db94fae95ae7121a47"},
		{"NIST, neither", "11754cd72aec309bf52f7687212e8957", "3c819d9a9bed087615030b65", "", "", "", "250327c674aaf477aef2675748cf6971"},
		{"NIST, beside alone", "77be63708971c4e240d1cb79e8d77feb", "e0e00f19fed7ba0136a797f3", "7a43ec1d9c0a5a78a0b16533a6213cab", "", "", "209fcc8d3675ed938e9c7166709dd946"},
		{"NIST, bytes alone", "7fddb57453c241d03efbed3ac44e371c", "ee283a3fc75575e33efd4887", "", "d5de42b461646c255c87bd2962d3b9a2", "2ccda4a5415cb91e135c2a0f78c9b2fd", "b36d1df9b9d5e596f83e8b7f52971cb3"},
		{
			"IEEE 802.1AE", "ad7a2bd03eac835a6f620fdcb506b345", "12153524c0895e81b2c28465",
			"d609b1f056637a0d46df998d88e5222ab2c2846512153524c0895e8108000f101112131415161718191a1b1c1d1e1f202122232425262728292a2b2c2d2e2f30313233340001",
			"", "", "f09478a9b09007d06f46e9b6a1da25dd",
		},
		{
			"RFC 8448", "17422dda596ed5d9acd890e3c63f5051", "5b78923dee08579033e523d9", "1703030043",
			"000102030405060708090a0b0c0d0e0f101112131415161718191a1b1c1d1e1f202122232425262728292a2b2c2d2e2f303117",
			"a23f7054b62c94d0affafe8228ba55cbefacea42f914aa66bcab3f2b9819a8a5b46b395bd54a9a20441e2b62974e1f5a6292a2",
			"977014bd1e3deae63aeebb21694915e4",
		},
		{
			"RFC 9001, the server's packet", "cf3a5331653c364c88f0f379b6067e37", "0ac1493ca1905853b0bba03f", "c1000000010008f067a5502a4262b50040750001",
			"02000000000600405a020000560303eefce7f7b37ba1d1632e96677825ddf73988cfc79825df566dc5430b9a045a1200130100002e00330024001d00209d3c940d89690b84d08a60993c144eca684d1081287c834d5311bcf32bb9da1a002b00020304",
			"5a482cd0991cd25b0aac406a5816b6394100f37a1c69797554780bb38cc5a99f5ede4cf73c3ec2493a1839b3dbcba3f6ea46c5b7684df3548e7ddeb9c3bf9c73cc3f3bded74b562bfb19fb84022f8ef4cdd93795d77d06edbb7aaf2f58891850abbdca",
			"3d20398c276456cbc42158407dd074ee",
		},
		{"RFC 9001, a retry", "be0c690b9f66575a1d766b54e368c84e", "461599d35d632bf2239825bb", "088394c8f03e515708ff000000010008f067a5502a4262b5746f6b656e", "", "", "04a265ba2eff4d829058fb3f0f2496ba"},
	} {
		key, n, beside, b, want := aes.Block(unhex(v.key)), nonce(unhex(v.nonce)), unhex(v.beside), unhex(v.b), unhex(v.sealed+v.tag)
		if got := Seal(key, n, beside, b); !bytes.Equal(got, want) {
			t.Errorf("%s: %x, not %x", v.what, got, want)
		}
		if got, ok := Open(key, n, beside, want); !ok || !bytes.Equal(got, b) {
			t.Errorf("%s: %x, %v, not %x", v.what, got, ok, b)
		}
		check(t, key, n, beside, b)
	}
}

func TestExamples(t *testing.T) { // P9.1
	want := []byte{0x58, 0xe2, 0xfc, 0xce, 0xfa, 0x7e, 0x30, 0x61, 0x36, 0x7f, 0x1d, 0x57, 0xa4, 0xe7, 0x45, 0x5a}
	if got := Seal(aes.Block{}, nonce{}, nil, nil); !bytes.Equal(got, want) {
		t.Errorf("Seal: %x", got)
	}
	if got, ok := Open(aes.Block{}, nonce{}, nil, want); !ok || len(got) != 0 {
		t.Errorf("Open: %x, %v", got, ok)
	}
}

func TestByChance(t *testing.T) { // P9.1
	r := rand.New(rand.NewSource(1))
	for range 1500 {
		key, n := keys(r)
		check(t, key, n, chance(r, r.Intn(300)), chance(r, r.Intn(1300)))
	}
}

func TestByTheChapter(t *testing.T) { // P9.1
	r := rand.New(rand.NewSource(2))
	for i := range 150 {
		key, n := keys(r)
		beside, b := chance(r, r.Intn(70)), chance(r, i)
		want := byTheChapter(key, n, beside, b)
		if got := Seal(key, n, beside, b); !bytes.Equal(got, want) {
			t.Fatalf("Seal(%x, %x, %x, %x): %x, by the chapter %x", key, n, beside, b, got, want)
		}
		opens(t, key, n, beside, want, b)
	}
}

// TestLengths: every length up to four blocks and some more of both, and those about greater multiples of sixteen.
func TestLengths(t *testing.T) { // P9.1
	r := rand.New(rand.NewSource(3))
	key, n := keys(r)
	all := chance(r, 5000)
	for beside := range 70 {
		for b := range 70 {
			check(t, key, n, all[:beside], all[100:100+b])
		}
	}
	for _, beside := range []int{0, 1, 15, 16, 17, 95, 96, 97, 127, 128, 129, 255, 256, 257, 1023, 1024, 1025} {
		for _, b := range []int{0, 1, 15, 16, 17, 79, 80, 81, 255, 256, 257, 1184, 1199, 1200, 1201, 2047, 2048, 2049} {
			check(t, key, n, all[:beside], all[2000:2000+b])
		}
	}
}

// TestNothing: nothing sealed, nothing beside, neither, each nil or empty or the beginning of something.
func TestNothing(t *testing.T) { // P9.1, R5
	r := rand.New(rand.NewSource(4))
	some := chance(r, 40)
	nothing := [][]byte{nil, {}, some[:0], some[40:], make([]byte, 0, 50)}
	for range 10 {
		key, n := keys(r)
		for _, none := range nothing {
			for _, other := range nothing {
				if got := check(t, key, n, none, other); len(got) != size || !bytes.Equal(got, Seal(key, n, nil, nil)) {
					t.Fatalf("neither: %x", got)
				}
			}
			if got := check(t, key, n, none, some); len(got) != len(some)+size || !bytes.Equal(got, Seal(key, n, nil, some)) {
				t.Fatalf("nothing beside: %x", got)
			}
			if got := check(t, key, n, some, none); len(got) != size || !bytes.Equal(got, Seal(key, n, some, nil)) {
				t.Fatalf("nothing sealed: %x", got)
			}
		}
	}
}

// TestEdges: keys, nonces and bytes of noughts, of all bits, of one bit.
func TestEdges(t *testing.T) { // P9.1
	r := rand.New(rand.NewSource(5))
	anyKey, anyNonce := keys(r)
	blocks := []aes.Block{{}, aes.Block(filled(255, 16)), {128}, {15: 1}, anyKey}
	nonces := []nonce{{}, nonce(filled(255, 12)), {128}, {11: 1}, anyNonce}
	texts := [][]byte{nil, filled(0, 1), filled(0, 16), filled(0, 100), filled(255, 1), filled(255, 16), filled(255, 100), chance(r, 50)}
	for _, key := range blocks {
		for _, n := range nonces {
			for _, beside := range texts {
				for _, b := range texts {
					check(t, key, n, beside, b)
				}
			}
		}
	}
	for at := range 128 {
		one := turned(make([]byte, 16), at)
		check(t, aes.Block(one), anyNonce, one, one)
		check(t, anyKey, nonce(turned(make([]byte, 12), at%96)), filled(0, 32), one)
		check(t, anyKey, anyNonce, slices.Concat(filled(0, 16), one), slices.Concat(one, filled(0, 16)))
	}
}

// TestManyBlocks: so many that one byte of the counter, or two, are too few.
func TestManyBlocks(t *testing.T) { // P9.1
	r := rand.New(rand.NewSource(6))
	all := chance(r, 300*size)
	for _, blocks := range []int{253, 254, 255, 256, 257, 258, 300} {
		for _, n := range []int{blocks*size - 1, blocks * size, min(blocks*size+1, len(all))} {
			key, nonce := keys(r)
			check(t, key, nonce, all[:20], all[:n])
			check(t, key, nonce, all[:n], all[:20])
		}
	}
	key, n := keys(r)
	check(t, key, n, all[:1000], make([]byte, 1<<16*size+33))
	check(t, key, n, make([]byte, 1<<16*size+33), all[:1])
}

// TestMasks: no two blocks of what is sealed are joined with the same.
func TestMasks(t *testing.T) { // P9.1
	key, n := keys(rand.New(rand.NewSource(7)))
	const blocks = 1<<16 + 300
	sealed := Seal(key, n, nil, make([]byte, blocks*size))
	seen := map[aes.Block]bool{}
	for part := range slices.Chunk(sealed[:blocks*size], size) {
		seen[aes.Block(part)] = true
	}
	if len(seen) != blocks {
		t.Errorf("of %d blocks %d are unlike", blocks, len(seen))
	}
}

// TestTurnedBit: of bytes with any bit turned, or any byte another one, nothing is opened.
func TestTurnedBit(t *testing.T) { // P9.1
	r := rand.New(rand.NewSource(8))
	for _, length := range []int{0, 1, 15, 16, 17, 31, 32, 33, 100} {
		key, n := keys(r)
		beside, b := chance(r, 21), chance(r, length)
		sealed := check(t, key, n, beside, b)
		for at := range 8 * len(sealed) {
			shut(t, "a bit turned", key, n, beside, turned(sealed, at))
		}
		for at := range sealed {
			other := slices.Clone(sealed)
			other[at] = ^other[at]
			shut(t, "a byte turned", key, n, beside, other)
		}
		opens(t, key, n, beside, sealed, b)
	}
}

// TestTurnedInMany: of many bytes, too, a bit turned anywhere is noticed.
func TestTurnedInMany(t *testing.T) { // P9.1
	r := rand.New(rand.NewSource(9))
	key, n := keys(r)
	beside, b := chance(r, 4200), chance(r, 4200)
	sealed := check(t, key, n, beside, b)
	for at := 0; at < 8*len(sealed); at += 101 {
		shut(t, "a bit turned", key, n, beside, turned(sealed, at))
	}
	for at := 0; at < 8*len(beside); at += 101 {
		shut(t, "a bit beside turned", key, n, turned(beside, at), sealed)
	}
}

// TestTurnedBits: of bytes with two bits turned, the same ones of two blocks or of two bytes, nothing is opened.
func TestTurnedBits(t *testing.T) { // P9.1
	r := rand.New(rand.NewSource(10))
	key, n := keys(r)
	beside, b := chance(r, 32), chance(r, 48)
	sealed := check(t, key, n, beside, b)
	for at := range 8 * (len(sealed) - size) {
		shut(t, "two blocks alike", key, n, beside, turned(turned(sealed, at), at+8*size))
	}
	for at := range 8 * (len(sealed) - 1) {
		shut(t, "two bytes alike", key, n, beside, turned(turned(sealed, at), at+8))
	}
	for at := range 8 * size {
		shut(t, "two blocks beside alike", key, n, turned(turned(beside, at), at+8*size), sealed)
		shut(t, "a block beside and one sealed alike", key, n, turned(beside, at), turned(sealed, at))
	}
}

// TestOtherKey: of bytes that another key or nonce sealed nothing is opened.
func TestOtherKey(t *testing.T) { // P9.1
	r := rand.New(rand.NewSource(11))
	for _, length := range []int{0, 1, 16, 50} {
		key, n := keys(r)
		beside, b := chance(r, length/2), chance(r, length)
		sealed := check(t, key, n, beside, b)
		for at := range 8 * len(key) {
			shut(t, "another key", aes.Block(turned(key[:], at)), n, beside, sealed)
		}
		for at := range 8 * len(n) {
			shut(t, "another nonce", key, nonce(turned(n[:], at)), beside, sealed)
		}
		shut(t, "a key of noughts", aes.Block{}, n, beside, sealed)
		shut(t, "a nonce of noughts", key, nonce{}, beside, sealed)
		opens(t, key, n, beside, sealed, b)
	}
}

// TestOtherBeside: with other bytes beside, or more, or fewer, nothing is opened.
func TestOtherBeside(t *testing.T) { // P9.1
	r := rand.New(rand.NewSource(12))
	for _, length := range []int{1, 15, 16, 17, 32, 40} {
		key, n := keys(r)
		beside, b := chance(r, length), chance(r, 30)
		sealed := check(t, key, n, beside, b)
		for at := range 8 * length {
			shut(t, "a bit beside turned", key, n, turned(beside, at), sealed)
		}
		for at := range length {
			shut(t, "cut behind", key, n, beside[:at], sealed)
			shut(t, "cut in front", key, n, beside[at+1:], sealed)
		}
		for more := 1; more <= 33; more++ {
			shut(t, "noughts behind", key, n, slices.Concat(beside, filled(0, more)), sealed)
			shut(t, "noughts in front", key, n, slices.Concat(filled(0, more), beside), sealed)
		}
		shut(t, "nothing beside", key, n, nil, sealed)
		shut(t, "what was sealed beside", key, n, b, sealed)
		shut(t, "twice beside", key, n, slices.Concat(beside, beside), sealed)
	}
}

// TestNoughtsAtTheEnd: noughts at an end count, though a short block is filled up with them.
func TestNoughtsAtTheEnd(t *testing.T) { // P9.1
	key, n := keys(rand.New(rand.NewSource(13)))
	seen := map[aes.Block]int{}
	for beside := range 40 {
		sealed := check(t, key, n, make([]byte, beside), nil)
		seen[aes.Block(sealed)]++
		for other := range 40 {
			if other != beside {
				shut(t, "other noughts beside", key, n, make([]byte, other), sealed)
			}
		}
	}
	if len(seen) != 40 {
		t.Errorf("of 40 tags %d are unlike", len(seen))
	}
	for length := range 40 { // what is sealed to noughts, and a nought more or less of it
		b := Seal(key, n, nil, make([]byte, length))[:length]
		sealed := check(t, key, n, nil, b)
		body, tag := sealed[:length], sealed[length:]
		if !bytes.Equal(body, make([]byte, length)) {
			t.Fatalf("%x", sealed)
		}
		for other := range 40 {
			if other != length {
				shut(t, "other noughts sealed", key, n, nil, slices.Concat(make([]byte, other), tag))
			}
		}
	}
}

// TestPlacesExchanged: where the bytes beside end and what is sealed begins isn't left open, nor which is which.
func TestPlacesExchanged(t *testing.T) { // P9.1
	r := rand.New(rand.NewSource(14))
	key, n := keys(r)
	all := chance(r, 64)
	for at := range 65 {
		sealed := check(t, key, n, all[:at], all[at:])
		body, tag := sealed[:64-at], sealed[64-at:]
		whole := slices.Concat(all[:at], body)
		for other := range 65 {
			if other != at {
				shut(t, "another end beside", key, n, whole[:other], slices.Concat(whole[other:], tag))
			}
		}
		shut(t, "exchanged", key, n, body, slices.Concat(all[:at], tag))
	}
}

// TestFewerThanATag: of fewer bytes than a tag has nothing is opened.
func TestFewerThanATag(t *testing.T) { // P9.1, P1
	r := rand.New(rand.NewSource(15))
	key, n := keys(r)
	shut(t, "nil", key, n, nil, nil)
	shut(t, "nil", aes.Block{}, nonce{}, nil, nil)
	for length := range size {
		shut(t, "noughts", key, n, nil, make([]byte, length))
		shut(t, "by chance", key, n, chance(r, 5), chance(r, length))
		for _, b := range [][]byte{nil, chance(r, 1), chance(r, 16), chance(r, 40)} {
			sealed := check(t, key, n, b, b)
			shut(t, "a beginning", key, n, b, sealed[:length])
			shut(t, "an end", key, n, b, sealed[len(sealed)-length:])
			shut(t, "a beginning in a greater array", key, n, b, sealed[:length:len(sealed)])
		}
	}
}

// TestCutOrLonger: of bytes cut, made longer, or in another order nothing is opened.
func TestCutOrLonger(t *testing.T) { // P9.1
	r := rand.New(rand.NewSource(16))
	for _, length := range []int{0, 1, 15, 16, 17, 48, 60} {
		key, n := keys(r)
		beside, b := chance(r, 9), chance(r, length)
		sealed := check(t, key, n, beside, b)
		body, tag := sealed[:length], sealed[length:]
		for at := range sealed {
			shut(t, "cut behind", key, n, beside, sealed[:at])
			shut(t, "cut in front", key, n, beside, sealed[at+1:])
			shut(t, "one byte less", key, n, beside, slices.Concat(sealed[:at], sealed[at+1:]))
		}
		for at := range length {
			shut(t, "cut ahead of the tag", key, n, beside, slices.Concat(body[:at], tag))
			shut(t, "cut in front, up to the tag", key, n, beside, slices.Concat(body[at+1:], tag))
		}
		for more := 1; more <= 33; more++ {
			for _, with := range [][]byte{filled(0, more), chance(r, more)} {
				shut(t, "longer behind", key, n, beside, slices.Concat(sealed, with))
				shut(t, "longer in front", key, n, beside, slices.Concat(with, sealed))
				shut(t, "longer ahead of the tag", key, n, beside, slices.Concat(body, with, tag))
			}
		}
		shut(t, "the tag twice", key, n, beside, slices.Concat(sealed, tag))
		shut(t, "all twice", key, n, beside, slices.Concat(sealed, sealed))
		if length > 0 {
			shut(t, "the tag in front", key, n, beside, slices.Concat(tag, body))
			shut(t, "the tag alone", key, n, beside, tag)
		}
		if length > size {
			shut(t, "blocks in another order", key, n, beside, slices.Concat(body[size:], body[:size], tag))
		}
	}
}

// TestForged: tags of something else, right in a half, of noughts, of all bits, turned round.
func TestForged(t *testing.T) { // P9.1
	r := rand.New(rand.NewSource(17))
	for range 50 {
		key, n := keys(r)
		beside, b := chance(r, 20), chance(r, 40)
		sealed := check(t, key, n, beside, b)
		body, tag := sealed[:len(b)], sealed[len(b):]
		round := slices.Clone(tag)
		slices.Reverse(round)
		for _, other := range [][]byte{
			make([]byte, size), filled(255, size), round, chance(r, size),
			slices.Concat(tag[:8], chance(r, 8)), slices.Concat(chance(r, 8), tag[8:]),
			slices.Concat(tag[:15], []byte{tag[15] + 1}), slices.Concat([]byte{tag[0] + 1}, tag[1:]),
			Seal(key, n, beside, nil), Seal(key, n, nil, b)[len(b):], Seal(key, n, body, nil),
		} {
			shut(t, "another tag", key, n, beside, slices.Concat(body, other))
		}
		shut(t, "not sealed at all", key, n, beside, b)
		shut(t, "bytes with the tag of them sealed", key, n, beside, slices.Concat(b, tag))
	}
}

// TestOpenedTwice: bytes sealed twice are opened twice, in the order turned round alone.
func TestOpenedTwice(t *testing.T) { // P9.1
	r := rand.New(rand.NewSource(18))
	key, n := keys(r)
	other, m := keys(r)
	b := chance(r, 77)
	once := Seal(key, n, []byte{1}, b)
	twice := Seal(other, m, []byte{2}, once)
	shut(t, "the other one first", key, n, []byte{1}, twice)
	opens(t, other, m, []byte{2}, twice, once)
	opens(t, key, n, []byte{1}, once, b)
}

// spare is what stands around watched bytes.
const spare = 24

// watched: so many bytes with something ahead of them and behind them, and whether all is as it was.
func watched(r *rand.Rand, n int) ([]byte, func() bool) {
	whole := chance(r, spare+n+spare)
	before := slices.Clone(whole)
	return whole[spare : spare+n], func() bool { return bytes.Equal(whole, before) }
}

// TestArgumentsStay: what is handed in is as it was, what stands around it and its spare room, too, whether it is opened or not.
func TestArgumentsStay(t *testing.T) { // P9.1, R6
	r := rand.New(rand.NewSource(19))
	for length := range 70 {
		key, n := keys(r)
		beside, besideSame := watched(r, length/2)
		b, same := watched(r, length)
		want := library(key, n, beside, b)
		check(t, key, n, beside, b)
		shut(t, "by chance", key, n, beside, b)
		both, bothSame := watched(r, length)
		check(t, key, n, both, both)
		check(t, key, n, both[:length/2], both[length/3:])
		whole := slices.Concat(chance(r, spare), want, chance(r, spare))
		before := slices.Clone(whole)
		opens(t, key, n, beside, whole[spare:spare+len(want)], b)
		shut(t, "cut", key, n, beside, whole[spare:spare+len(want)-1])
		if !besideSame() || !same() || !bothSame() || !bytes.Equal(whole, before) {
			t.Fatalf("of %d bytes some are changed", length)
		}
	}
}

// TestAnswersNew: an answer doesn't change with what was handed in, nor with another answer, nor either of these with it.
func TestAnswersNew(t *testing.T) { // P9.1, R6
	r := rand.New(rand.NewSource(20))
	for _, length := range []int{0, 1, 15, 16, 17, 100, 1200} {
		key, n := keys(r)
		beside, b := chance(r, length), chance(r, length)
		was, want := slices.Clone(b), library(key, n, beside, b)
		first, second := Seal(key, n, beside, b), Seal(key, n, beside, b)
		wreck(first)
		if !bytes.Equal(b, was) || !bytes.Equal(second, want) {
			t.Fatalf("of %d bytes sealed some share memory", length)
		}
		third, _ := Open(key, n, beside, second)
		fourth, _ := Open(key, n, beside, second)
		wreck(third)
		if !bytes.Equal(second, want) || !bytes.Equal(fourth, was) {
			t.Fatalf("of %d bytes opened some share memory", length)
		}
		fifth := Seal(key, n, beside, b)
		wreck(b)
		wreck(beside)
		wreck(second)
		if !bytes.Equal(fourth, was) || !bytes.Equal(fifth, want) {
			t.Fatalf("of %d bytes some are shared with what was handed in", length)
		}
	}
}

// wreck: bytes, and what room they have behind, are turned.
func wreck(b []byte) {
	b = b[:cap(b)]
	for i := range b {
		b[i] = ^b[i]
	}
}

// TestSame: the same is answered, whatever was asked in between, and whatever room was behind the arguments.
func TestSame(t *testing.T) { // P9.1, R8
	r := rand.New(rand.NewSource(21))
	for length := range 150 {
		key, n := keys(r)
		beside, b := chance(r, r.Intn(60)), chance(r, length)
		sealed := Seal(key, n, beside, b)
		other, m := keys(r)
		Seal(other, m, b, beside)
		Seal(key, m, b, beside)
		shut(t, "others", other, m, b, sealed)
		roomy := append(make([]byte, 0, 5*length+99), b...)
		if again := Seal(key, n, slices.Clip(beside), roomy); !bytes.Equal(again, sealed) {
			t.Fatalf("%x, then %x", sealed, again)
		}
		opens(t, key, n, beside, sealed, b)
		opens(t, key, n, beside, append(make([]byte, 0, 5*length+99), sealed...), b)
	}
}

// TestAtOnce: what is asked at the same time, with the same memory handed in, answers the same.
func TestAtOnce(t *testing.T) { // R6, R8
	r := rand.New(rand.NewSource(22))
	beside, b := chance(r, 45), chance(r, 333)
	var group sync.WaitGroup
	for range 4 {
		key, n := keys(r)
		want := library(key, n, beside, b)
		for range 3 {
			group.Go(func() {
				for range 30 {
					if got, ok := Open(key, n, beside, want); !ok || !bytes.Equal(got, b) || !bytes.Equal(Seal(key, n, beside, b), want) {
						t.Errorf("at once: by %x", key)
					}
				}
			})
		}
	}
	group.Wait()
}

// TestOnlySealed: of whatever bytes Open says true, just these are sealed of what it answers.
func TestOnlySealed(t *testing.T) { // P9.1
	r := rand.New(rand.NewSource(23))
	for range 3000 {
		key, n := keys(r)
		beside, b := chance(r, r.Intn(20)), chance(r, r.Intn(60))
		if r.Intn(2) == 0 {
			b = Seal(key, n, beside, b)
		}
		for range r.Intn(3) {
			if len(b) > 0 {
				b[r.Intn(len(b))] ^= byte(r.Intn(4))
			}
		}
		out, ok := Open(key, n, beside, b)
		if ok != (len(b) >= size && bytes.Equal(library(key, n, beside, out), b)) {
			t.Fatalf("Open(%x, %x, %x, %x): %x, %v", key, n, beside, b, out, ok)
		}
		if !ok && len(out) != 0 {
			t.Fatalf("beside false: %x", out)
		}
	}
}
