package aes

import (
	"crypto/aes"
	"encoding/hex"
	"math/bits"
	"math/rand"
	"slices"
	"sync"
	"testing"
)

// block: what a text of base sixteen tells.
func block(text string) Block {
	b, err := hex.DecodeString(text)
	if err != nil {
		panic(err)
	}
	return Block(b)
}

// filled: sixteen bytes that are all the same.
func filled(b byte) Block { return Block(slices.Repeat([]byte{b}, 16)) }

// oneBit: the block of one bit, and that of all the others, for each place.
func oneBit() []Block {
	var list []Block
	for at := range 128 {
		var one Block
		one[at/8] = 1 << (at % 8)
		list = append(list, one, joinedBlocks(one, filled(255)))
	}
	return list
}

// edges: of noughts, of all bits, of one bit, of some patterns.
func edges() []Block {
	return append([]Block{{}, filled(255), filled(0x52), filled(0x63), filled(0x80), filled(0x1b), {1}, {15: 1}}, oneBit()...)
}

// some: so many blocks by chance, always the same ones.
func some(seed int64, n int) []Block {
	r := rand.New(rand.NewSource(seed))
	list := make([]Block, n)
	for i := range list {
		r.Read(list[i][:])
	}
	return list
}

// joinedBlocks: by exclusive-or.
func joinedBlocks(a, b Block) Block {
	for i := range a {
		a[i] ^= b[i]
	}
	return a
}

// library: what Go's own library answers.
func library(key, b Block) Block {
	c, err := aes.NewCipher(key[:])
	if err != nil {
		panic(err)
	}
	c.Encrypt(b[:], b[:])
	return b
}

// check: Encrypt with a key, and the Cipher made of it, answer as the library does.
func check(t *testing.T, key, b Block) {
	t.Helper()
	want := library(key, b)
	if got := Encrypt(key, b); got != want {
		t.Fatalf("Encrypt(%x, %x): %x, not %x", key, b, got, want)
	}
	if got := New(key).Encrypt(b); got != want {
		t.Fatalf("New(%x).Encrypt(%x): %x, not %x", key, b, got, want)
	}
}

// product: of two bytes as polynomials over two, bit by bit, brought below x^8 at last.
func product(a, b byte) byte {
	n := 0
	for at := range 8 {
		if b>>at&1 == 1 {
			n ^= int(a) << at
		}
	}
	for at := 14; at >= 8; at-- {
		if n>>at&1 == 1 {
			n ^= 0x11b << (at - 8)
		}
	}
	return byte(n)
}

// sub: a byte's, by the chapter's words.
func sub(b byte) byte {
	var inverse byte
	for other := range 256 {
		if product(b, byte(other)) == 1 {
			inverse = byte(other)
		}
	}
	out := inverse
	for n := 1; n <= 4; n++ {
		out ^= bits.RotateLeft8(inverse, n)
	}
	return out ^ 0x63
}

// subsByTheChapter: each byte's.
func subsByTheChapter() [256]byte {
	var table [256]byte
	for i := range table {
		table[i] = sub(byte(i))
	}
	return table
}

// powerOf: x^n.
func powerOf(n int) byte {
	power := byte(1)
	for range n {
		power = product(power, 2)
	}
	return power
}

// keysByTheChapter: K0 to K10.
func keysByTheChapter(table *[256]byte, key Block) [11]Block {
	keys := [11]Block{key}
	for i := 1; i <= 10; i++ {
		before, k := keys[i-1], &keys[i]
		for j, from := range []int{13, 14, 15, 12} {
			k[j] = before[j] ^ table[before[from]]
		}
		k[0] ^= powerOf(i - 1)
		for j := 4; j < 16; j++ {
			k[j] = before[j] ^ k[j-4]
		}
	}
	return keys
}

// byTheChapter: a block, by the chapter's words.
func byTheChapter(table *[256]byte, key, b Block) Block {
	rows := [4][4]byte{{2, 3, 1, 1}, {1, 2, 3, 1}, {1, 1, 2, 3}, {3, 1, 1, 2}}
	keys := keysByTheChapter(table, key)
	b = joinedBlocks(b, keys[0])
	for i := 1; i <= 10; i++ {
		var next Block
		for j := range next {
			next[j] = table[b[(j+4*(j%4))%16]]
		}
		if i < 10 {
			before := next
			for j := range next {
				next[j] = 0
				for n, factor := range rows[j%4] {
					next[j] ^= product(factor, before[j-j%4+n])
				}
			}
		}
		b = joinedBlocks(next, keys[i])
	}
	return b
}

// back: the key whose Ki is that.
func back(table *[256]byte, i int, k Block) Block {
	for ; i > 0; i-- {
		var before Block
		for j := 4; j < 16; j++ {
			before[j] = k[j] ^ k[j-4]
		}
		for j, from := range []int{13, 14, 15, 12} {
			before[j] = k[j] ^ table[before[from]]
		}
		before[0] ^= powerOf(i - 1)
		k = before
	}
	return k
}

// TestPublished: what FIPS 197, SP 800-38A, AESAVS and RFC 9001 tell.
func TestPublished(t *testing.T) { // P8.1
	for _, v := range []struct{ key, b, want string }{
		{"2b7e151628aed2a6abf7158809cf4f3c", "3243f6a8885a308d313198a2e0370734", "3925841d02dc09fbdc118597196a0b32"},
		{"000102030405060708090a0b0c0d0e0f", "00112233445566778899aabbccddeeff", "69c4e0d86a7b0430d8cdb78070b4c55a"},
		{"2b7e151628aed2a6abf7158809cf4f3c", "6bc1bee22e409f96e93d7e117393172a", "3ad77bb40d7a3660a89ecaf32466ef97"},
		{"2b7e151628aed2a6abf7158809cf4f3c", "ae2d8a571e03ac9c9eb76fac45af8e51", "f5d3d58503b9699de785895a96fdbaaf"},
		{"2b7e151628aed2a6abf7158809cf4f3c", "30c81c46a35ce411e5fbc1191a0a52ef", "43b1cd7f598ece23881b00e3ed030688"},
		{"2b7e151628aed2a6abf7158809cf4f3c", "f69f2445df4f9b17ad2b417be66c3710", "7b0c785e27e8ad3f8223207104725dd4"},
		{"00000000000000000000000000000000", "f34481ec3cc627bacd5dc3fb08f273e6", "0336763e966d92595a567cc9ce537f5e"},
		{"10a58869d74be5a374cf867cfb473859", "00000000000000000000000000000000", "6d251e6944b051e04eaa6fb4dbf78465"},
		{"80000000000000000000000000000000", "00000000000000000000000000000000", "0edd33d3c621e546455bd8ba1418bec8"},
		{"ffffffffffffffffffffffffffffffff", "00000000000000000000000000000000", "a1f6258c877d5fcd8964484538bfc92c"},
		{"00000000000000000000000000000000", "80000000000000000000000000000000", "3ad78e726c1ec02b7ebfe92b23d9ec34"},
		{"00000000000000000000000000000000", "ffffffffffffffffffffffffffffffff", "3f5b8cc9ea855a0afa7347d23e8d664e"},
		{"00000000000000000000000000000000", "00000000000000000000000000000000", "66e94bd4ef8a2c3b884cfa59ca342b2e"},
	} {
		key, b, want := block(v.key), block(v.b), block(v.want)
		if got := Encrypt(key, b); got != want {
			t.Errorf("Encrypt(%x, %x): %x, not %x", key, b, got, want)
		}
		check(t, key, b)
	}
	mask := Encrypt(block("9f50449e04a0e810283a1e9933adedd2"), block("d1b1c98dd7689fb8ec11d242b123dc9b"))
	if [5]byte(mask[:5]) != [5]byte{0x43, 0x7b, 0x9a, 0xec, 0x36} {
		t.Errorf("RFC 9001's mask: %x", mask)
	}
}

func TestExamples(t *testing.T) { // P8.1
	var key, b Block
	for i := range key {
		key[i], b[i] = byte(i), byte(0x11*i)
	}
	want := Block{0x69, 0xc4, 0xe0, 0xd8, 0x6a, 0x7b, 0x04, 0x30, 0xd8, 0xcd, 0xb7, 0x80, 0x70, 0xb4, 0xc5, 0x5a}
	if got := Encrypt(key, b); got != want {
		t.Errorf("Encrypt: %x", got)
	}
	if got := New(key).Encrypt(b); got != want {
		t.Errorf("a Cipher's Encrypt: %x", got)
	}
}

func TestByChance(t *testing.T) { // P8.1
	keys, blocks := some(1, 3000), some(2, 3000)
	for i, key := range keys {
		check(t, key, blocks[i])
	}
}

func TestByTheChapter(t *testing.T) { // P8.1
	table := subsByTheChapter()
	blocks := append(edges(), some(3, 300)...)
	for i, key := range append(some(4, 300), edges()...) {
		b := blocks[i]
		if got, want := Encrypt(key, b), byTheChapter(&table, key, b); got != want {
			t.Fatalf("Encrypt(%x, %x): %x, by the chapter %x", key, b, got, want)
		}
	}
}

// TestSubs: each byte's Sub, by the search for its inverse.
func TestSubs(t *testing.T) { // P8.1
	table := subs()
	if want := subsByTheChapter(); table != want {
		t.Fatalf("%x, not %x", table, want)
	}
	if table[0] != 0x63 || table[0x53] != 0xed || table[255] != 0x16 {
		t.Errorf("not as published: %x", table)
	}
}

func TestEdges(t *testing.T) { // P8.1
	chance := some(5, 1)[0]
	for _, b := range edges() {
		for _, other := range []Block{{}, filled(255), b, joinedBlocks(b, filled(255)), chance} {
			check(t, b, other)
			check(t, other, b)
		}
	}
	list := oneBit()
	for i, b := range list {
		check(t, b, list[len(list)-1-i])
		check(t, b, list[(i+37)%len(list)])
	}
}

// TestEachByte: each byte at each place, of the block and of the key.
func TestEachByte(t *testing.T) { // P8.1
	for at := range 16 {
		for v := range 256 {
			var b Block
			b[at] = byte(v)
			check(t, Block{}, b)
			check(t, b, Block{})
		}
		for v := range 256 {
			check(t, filled(byte(v)), filled(byte(v+at)))
		}
	}
}

// TestTurnedRound: the key as the block, the block as the key.
func TestTurnedRound(t *testing.T) { // P8.1
	blocks := append(edges(), some(6, 300)...)
	for i, a := range blocks {
		b := blocks[(i+101)%len(blocks)]
		check(t, a, b)
		check(t, b, a)
		check(t, a, a)
		if a != b && Encrypt(a, b) == Encrypt(b, a) {
			t.Fatalf("%x and %x: turned round the same", a, b)
		}
	}
}

// TestRoundKeys: as FIPS 197 tells them, and as the chapter's words do.
func TestRoundKeys(t *testing.T) { // P8.1
	want := [11]Block{
		block("2b7e151628aed2a6abf7158809cf4f3c"), block("a0fafe1788542cb123a339392a6c7605"),
		block("f2c295f27a96b9435935807a7359f67f"), block("3d80477d4716fe3e1e237e446d7a883b"),
		block("ef44a541a8525b7fb671253bdb0bad00"), block("d4d1c6f87c839d87caf2b8bc11f915bc"),
		block("6d88a37a110b3efddbf98641ca0093fd"), block("4e54f70e5f5fc9f384a64fb24ea6dc4f"),
		block("ead27321b58dbad2312bf5607f8d292f"), block("ac7766f319fadc2128d12941575c006e"),
		block("d014f9a8c9ee2589e13f0cc8b6630ca6"),
	}
	if got := New(want[0]).keys; got != want {
		t.Errorf("%x, not %x", got, want)
	}
	table := subsByTheChapter()
	for _, key := range append(edges(), some(7, 300)...) {
		if got, want := New(key).keys, keysByTheChapter(&table, key); got != want {
			t.Fatalf("of %x: %x, not %x", key, got, want)
		}
	}
}

// TestEachRoundsKey: each round's key of noughts, of all bits, of one bit.
func TestEachRoundsKey(t *testing.T) { // P8.1
	table := subsByTheChapter()
	chance := some(8, 1)[0]
	for i := range 11 {
		for _, k := range edges() {
			key := back(&table, i, k)
			if got := New(key).keys[i]; got != k {
				t.Fatalf("K%d of %x: %x, not %x", i, key, got, k)
			}
			check(t, key, chance)
			check(t, key, Block{})
			check(t, key, filled(255))
			check(t, key, key)
		}
	}
}

// TestUnlike: unlike blocks become unlike ones by one key.
func TestUnlike(t *testing.T) { // P8.1
	for _, key := range []Block{{}, filled(255), block("000102030405060708090a0b0c0d0e0f"), some(9, 1)[0]} {
		c, seen := New(key), map[Block]Block{}
		for n := range 1 << 14 {
			var b Block
			b[n%16], b[(n/16)%16], b[15-n%16] = byte(n), byte(n>>8), byte(n>>3)
			once(t, c, seen, b)
		}
		for _, b := range append(edges(), some(10, 2000)...) {
			once(t, c, seen, b)
		}
	}
}

// once: no other block has become what this one does.
func once(t *testing.T, c *Cipher, seen map[Block]Block, b Block) {
	t.Helper()
	out := c.Encrypt(b)
	if other, ok := seen[out]; ok && other != b {
		t.Fatalf("%x and %x: both %x", b, other, out)
	}
	seen[out] = b
}

// TestEachBit: each bit of the key and of the block says something, to each half of the answer.
func TestEachBit(t *testing.T) { // P8.1
	list := some(11, 2)
	key, b := list[0], list[1]
	want := Encrypt(key, b)
	for at := range 128 {
		var one Block
		one[at/8] = 1 << (at % 8)
		for _, got := range []Block{Encrypt(joinedBlocks(key, one), b), Encrypt(key, joinedBlocks(b, one))} {
			if [8]byte(got[:8]) == [8]byte(want[:8]) || [8]byte(got[8:]) == [8]byte(want[8:]) {
				t.Fatalf("bit %d: %x and %x", at, got, want)
			}
		}
	}
}

// TestManyBlocks: the same key for many blocks, each out of the one ahead.
func TestManyBlocks(t *testing.T) { // P8.1
	for _, key := range append([]Block{{}, filled(255)}, some(12, 3)...) {
		theirs, err := aes.NewCipher(key[:])
		if err != nil {
			t.Fatal(err)
		}
		c, b, want := New(key), Block{}, Block{}
		for i := range 5000 {
			b = c.Encrypt(b)
			theirs.Encrypt(want[:], want[:])
			if b != want {
				t.Fatalf("key %x, block %d: %x, not %x", key, i, b, want)
			}
		}
	}
}

// TestAgain: a Cipher answers what Encrypt does, as often as it is asked, whatever was asked in between.
func TestAgain(t *testing.T) { // P8.1, R8
	keys, blocks := some(13, 20), append([]Block{{}, filled(255)}, some(14, 20)...)
	var ciphers []*Cipher
	for _, key := range keys {
		ciphers = append(ciphers, New(key))
	}
	r := rand.New(rand.NewSource(15))
	for range 4000 {
		i, b := r.Intn(len(keys)), blocks[r.Intn(len(blocks))]
		want := library(keys[i], b)
		if got := ciphers[i].Encrypt(b); got != want {
			t.Fatalf("New(%x).Encrypt(%x): %x, not %x", keys[i], b, got, want)
		}
		if got := Encrypt(keys[i], b); got != want {
			t.Fatalf("Encrypt(%x, %x): %x, not %x", keys[i], b, got, want)
		}
	}
}

// TestKept: what a Cipher keeps is neither changed by what it is asked nor by what becomes of its key, and no other Cipher of it either.
func TestKept(t *testing.T) { // P8.1, R6, R8
	key := some(16, 1)[0]
	handed := key
	c, twin := New(handed), New(handed)
	if c == twin {
		t.Error("not new memory")
	}
	before, b := *c, Block{1}
	handed[3] ^= 255
	for range 5 {
		if got := c.Encrypt(b); got != library(key, b) || b != (Block{1}) {
			t.Fatalf("%x of %x", got, b)
		}
	}
	if *c != before || *twin != before {
		t.Error("changed")
	}
	copied := *c
	*c = Cipher{}
	if copied.Encrypt(b) != library(key, b) || twin.Encrypt(b) != library(key, b) {
		t.Error("kept together with another one")
	}
}

func TestNil(t *testing.T) { // P8.1, P1, R7
	var c *Cipher
	for _, b := range append(edges(), some(17, 20)...) {
		if got := c.Encrypt(b); got != (Block{}) {
			t.Fatalf("of %x: %x", b, got)
		}
	}
	if New(Block{}) == nil || New(filled(255)) == nil {
		t.Error("New: nil")
	}
}

// TestNotMade: it may encrypt to any block, but always to the same one, and without harm to others.
func TestNotMade(t *testing.T) { // P8.1, P1, R8
	var c Cipher
	key := some(18, 1)[0]
	for _, b := range append(edges(), some(19, 20)...) {
		got := c.Encrypt(b)
		check(t, key, b)
		if again := c.Encrypt(b); again != got || new(Cipher).Encrypt(b) != got {
			t.Fatalf("of %x: %x, then %x", b, got, again)
		}
	}
	if c != (Cipher{}) {
		t.Error("changed")
	}
}

// TestAtOnce: what is asked at the same time answers the same.
func TestAtOnce(t *testing.T) { // R8
	keys, blocks := some(20, 8), some(21, 50)
	shared := New(keys[0])
	var group sync.WaitGroup
	for _, key := range keys {
		group.Go(func() {
			for _, b := range blocks {
				if shared.Encrypt(b) != library(keys[0], b) || Encrypt(key, b) != library(key, b) {
					t.Errorf("at once: %x by %x", b, key)
				}
			}
		})
	}
	group.Wait()
}
