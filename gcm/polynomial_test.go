package gcm

import (
	"bytes"
	"encoding/binary"
	"math/big"
	"math/rand"
	"slices"
	"testing"

	"skiff/aes"
)

// number: a block's polynomial, x^n being the bit n.
func number(b aes.Block) *big.Int {
	n := new(big.Int)
	for at := range 128 {
		n.SetBit(n, at, uint(b[at/8]>>(7-at%8)&1))
	}
	return n
}

// blockOf: the block of a polynomial below x^128.
func blockOf(n *big.Int) aes.Block {
	var b aes.Block
	for at := range 128 {
		b[at/8] |= byte(n.Bit(at)) << (7 - at%8)
	}
	return b
}

// modulus: x^128 + x^7 + x^2 + x + 1.
func modulus() *big.Int {
	n := big.NewInt(1<<7 + 1<<2 + 1<<1 + 1)
	return n.SetBit(n, 128, 1)
}

// product: of two blocks, bit by bit, brought below x^128 at last.
func product(a, b aes.Block) aes.Block {
	n, first, second := new(big.Int), number(a), number(b)
	for at := range 128 {
		if second.Bit(at) == 1 {
			n.Xor(n, new(big.Int).Lsh(first, uint(at)))
		}
	}
	for at := 254; at >= 128; at-- {
		if n.Bit(at) == 1 {
			n.Xor(n, new(big.Int).Lsh(modulus(), uint(at-128)))
		}
	}
	return blockOf(n)
}

// joined: two blocks, by exclusive-or.
func joined(a, b aes.Block) aes.Block {
	for i := range a {
		a[i] ^= b[i]
	}
	return a
}

// counterBlock: n, behind the nonce.
func counterBlock(n nonce, counter uint32) aes.Block {
	return aes.Block(binary.BigEndian.AppendUint32(n[:], counter))
}

// whole: bytes, filled up with noughts to whole blocks.
func whole(b []byte) []byte { return append(slices.Clone(b), make([]byte, (16-len(b)%16)%16)...) }

// byTheChapter: bytes sealed, by the chapter's words.
func byTheChapter(key aes.Block, n nonce, beside, b []byte) []byte {
	out := slices.Clone(b)
	for i := range out {
		mask := aes.Encrypt(key, counterBlock(n, uint32(2+i/16)))
		out[i] ^= mask[i%16]
	}
	bitsOf := binary.BigEndian.AppendUint64(binary.BigEndian.AppendUint64(nil, uint64(8*len(beside))), uint64(8*len(out)))
	var y aes.Block
	for part := range slices.Chunk(slices.Concat(whole(beside), whole(out), bitsOf), 16) {
		y = product(joined(y, aes.Block(part)), aes.Encrypt(key, aes.Block{}))
	}
	tag := joined(aes.Encrypt(key, counterBlock(n, 1)), y)
	return append(out, tag[:]...)
}

// edges: of noughts, of all bits, of one bit, of some patterns, by chance.
func edges(seed int64) []aes.Block {
	r := rand.New(rand.NewSource(seed))
	list := []aes.Block{{}, aes.Block(filled(255, 16)), aes.Block(filled(0x80, 16)), aes.Block(filled(1, 16)), {0xe1}, aes.Block(chance(r, 16)), aes.Block(chance(r, 16))}
	for at := range 128 {
		list = append(list, aes.Block(turned(make([]byte, 16), at)))
	}
	return list
}

// TestReadAndBlock: a block is read, and made again.
func TestReadAndBlock(t *testing.T) { // P9.1
	for _, b := range edges(30) {
		if got := read(b).block(); got != b {
			t.Fatalf("%x: %x", b, got)
		}
		want := polynomial{binary.BigEndian.Uint64(b[:8]), binary.BigEndian.Uint64(b[8:])}
		if read(b) != want {
			t.Fatalf("%x: %x", b, read(b))
		}
	}
}

// TestProducts: against the chapter's polynomials, bit by bit, at noughts, at each power of x, at all bits, by chance.
func TestProducts(t *testing.T) { // P9.1
	list := edges(31)
	for i, a := range list {
		for _, b := range slices.Concat(list[:7], list[len(list)-2:], list[i:i+1]) {
			want := product(a, b)
			if got := read(a).times(read(b)).block(); got != want {
				t.Fatalf("%x times %x: %x, not %x", a, b, got, want)
			}
			if got := read(b).times(read(a)).block(); got != want {
				t.Fatalf("%x times %x: %x, not %x", b, a, got, want)
			}
			if got := read(a).plus(read(b)).block(); got != joined(a, b) {
				t.Fatalf("%x plus %x: %x", a, b, got)
			}
		}
		if got := read(a).timesX().block(); got != product(a, aes.Block{0x40}) {
			t.Fatalf("x times %x: %x", a, got)
		}
	}
	one := polynomial{first: 1 << 63}
	for _, a := range list {
		if p := read(a); p.times(one) != p || one.times(p) != p || p.times(polynomial{}) != (polynomial{}) {
			t.Fatalf("%x: times one, or nought", a)
		}
	}
}

// TestPowers: the first powers of x are unlike, and each is the one ahead moved on by one, brought below x^128.
func TestPowers(t *testing.T) { // P9.1
	power, seen := polynomial{first: 1 << 63}, map[polynomial]bool{}
	want := big.NewInt(1)
	for range 3000 {
		if seen[power] || power.block() != blockOf(want) {
			t.Fatalf("%x, not %x", power, blockOf(want))
		}
		seen[power] = true
		power = power.timesX()
		want.Lsh(want, 1)
		if want.Bit(128) == 1 {
			want.Xor(want, modulus())
		}
	}
}

// TestSum: each part is filled up by itself, in any number, and none adds nothing.
func TestSum(t *testing.T) { // P9.1
	r := rand.New(rand.NewSource(32))
	factor := read(aes.Block(chance(r, 16)))
	if sum(factor) != (polynomial{}) || sum(factor, nil, []byte{}) != (polynomial{}) {
		t.Error("of nothing")
	}
	for n := range 70 {
		a, b := chance(r, n), chance(r, 69-n)
		got := sum(factor, a, nil, b)
		if want := sum(factor, slices.Concat(whole(a), whole(b))); got != want {
			t.Fatalf("%x and %x: %x, not %x", a, b, got, want)
		}
		var y aes.Block
		for part := range slices.Chunk(slices.Concat(whole(a), whole(b)), 16) {
			y = product(joined(y, aes.Block(part)), factor.block())
		}
		if got.block() != y {
			t.Fatalf("%x and %x: %x, not %x", a, b, got.block(), y)
		}
	}
}

// asked is a cipher that tells which blocks it was asked for, and turns each one's bits.
type asked struct{ list *[]aes.Block }

func (a asked) Encrypt(b aes.Block) aes.Block {
	*a.list = append(*a.list, b)
	return joined(b, aes.Block(filled(255, 16)))
}

// TestCounterBlocks: the nonce, and all four bytes of the number, the greatest first.
func TestCounterBlocks(t *testing.T) { // P9.1
	r := rand.New(rand.NewSource(33))
	for _, n := range []nonce{{}, nonce(filled(255, 12)), nonce(chance(r, 12))} {
		for _, counter := range []uint32{0, 1, 2, 255, 256, 257, 1<<16 - 1, 1 << 16, 1<<24 - 1, 1 << 24, 1<<27 + 1, 0x01020304, 1<<32 - 1} {
			var list []aes.Block
			got := sealer{asked{&list}, n}.mask(counter)
			want := counterBlock(n, counter)
			if len(list) != 1 || list[0] != want || got != joined(want, aes.Block(filled(255, 16))) {
				t.Fatalf("%d of %x: %x, asked %x", counter, n, got, list)
			}
		}
	}
}

// TestAnyCipher: whatever encrypts is asked for the counter blocks from 2 on for the bytes, for the block 0 and the counter block 1 for the tag, and for no other.
func TestAnyCipher(t *testing.T) { // P9.1
	r := rand.New(rand.NewSource(34))
	n := nonce(chance(r, 12))
	for length := range 70 {
		var list []aes.Block
		b := chance(r, length)
		s := sealer{asked{&list}, n}
		out := s.masked([]byte{7}, b)
		if len(list) != (length+15)/16 {
			t.Fatalf("%d bytes: %d blocks", length, len(list))
		}
		for i, block := range list {
			if block != counterBlock(n, uint32(2+i)) {
				t.Fatalf("%d bytes: %x", length, list)
			}
		}
		if out[0] != 7 || !bytes.Equal(s.masked(nil, out[1:]), b) {
			t.Fatalf("%d bytes: not back, or not behind what was there", length)
		}
		list = nil
		s.tag(b, out)
		for _, block := range list {
			if block != (aes.Block{}) && block != counterBlock(n, 1) {
				t.Fatalf("the tag of %d bytes: %x", length, list)
			}
		}
	}
}
