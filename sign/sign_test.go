package sign

import (
	"bytes"
	"crypto/ed25519"
	"crypto/sha512"
	"encoding/hex"
	"math/big"
	"math/rand"
	"slices"
	"sync"
	"testing"

	"skiff/api"
	"skiff/curve"
)

// prime is 2^255 - 19.
func prime() *big.Int {
	p := new(big.Int).Lsh(big.NewInt(1), 255)
	return p.Sub(p, big.NewInt(19))
}

// order is 2^252 + 27742317777372353535851937790883648493.
func order() *big.Int {
	n, _ := new(big.Int).SetString("27742317777372353535851937790883648493", 10)
	return n.Add(n, new(big.Int).Lsh(big.NewInt(1), 252))
}

// key: a number below 2^256 as 32 bytes, the lowest first.
func key(n *big.Int) api.Key {
	var k api.Key
	n.FillBytes(k[:])
	slices.Reverse(k[:])
	return k
}

// number: the number of bytes, the lowest first.
func number(b []byte) *big.Int {
	b = slices.Clone(b)
	slices.Reverse(b)
	return new(big.Int).SetBytes(b)
}

// above: the prime and a number, as 32 bytes.
func above(n int64) api.Key { return key(new(big.Int).Add(prime(), big.NewInt(n))) }

// beyond: the order and a number, as 32 bytes.
func beyond(n int64) api.Key { return key(new(big.Int).Add(order(), big.NewInt(n))) }

// small: a small number as 32 bytes.
func small(n int64) api.Key { return key(big.NewInt(n)) }

// high: with the highest bit turned.
func high(k api.Key) api.Key {
	k[31] ^= 128
	return k
}

// unhex: the bytes that a text of base sixteen tells.
func unhex(text string) []byte {
	b, err := hex.DecodeString(text)
	if err != nil {
		panic(err)
	}
	return b
}

// bytesOf: 32 bytes that are all the same.
func bytesOf(b byte) api.Key { return api.Key(bytes.Repeat([]byte{b}, 32)) }

// some: so many keys by chance, always the same ones.
func some(seed int64, n int) []api.Key {
	r := rand.New(rand.NewSource(seed))
	keys := make([]api.Key, n)
	for i := range keys {
		r.Read(keys[i][:])
	}
	return keys
}

// secrets: of noughts, of all bits, and others by chance.
func secrets(seed int64, n int) []api.Key {
	return append([]api.Key{{}, bytesOf(255), {1}, {31: 128}}, some(seed, n)...)
}

// texts: what may be signed: none, one byte, around a block of Sum512 alone and behind a prefix or two keys, some thousands.
func texts(seed int64) [][]byte {
	r := rand.New(rand.NewSource(seed))
	list := [][]byte{nil, {}, {0}, {255}}
	for _, n := range []int{2, 31, 32, 33, 47, 48, 49, 63, 64, 65, 79, 80, 81, 95, 96, 97, 111, 112, 127, 128, 129, 255, 256, 257, 1023, 3000, 8191} {
		b := make([]byte, n)
		r.Read(b)
		list = append(list, b)
	}
	return list
}

// joined: both halves of a signature.
func joined(first, second api.Key) [64]byte { return [64]byte(append(first[:], second[:]...)) }

// library: what Go's own library answers.
func library(secret api.Key) ed25519.PrivateKey { return ed25519.NewKeyFromSeed(secret[:]) }

// numberOf: a secret's number.
func numberOf(secret api.Key) *big.Int {
	sum := sha512.Sum512(secret[:])
	sum[0] &= 248
	sum[31] &= 127
	sum[31] |= 64
	return number(sum[:32])
}

// hangs: k, of a first half, a public key and bytes.
func hangs(first, public api.Key, b []byte) *big.Int {
	sum := sha512.Sum512(slices.Concat(first[:], public[:], b))
	return modulo(number(sum[:]))
}

// modulo: a number that is its own, modulo the order.
func modulo(n *big.Int) *big.Int { return n.Mod(n, order()) }

// times: a number times a point.
func times(n *big.Int, p curve.Point) curve.Point { return curve.Mul(key(n), p) }

// decoded: the point that 32 bytes are of.
func decoded(t *testing.T, k api.Key) curve.Point {
	t.Helper()
	p, ok := curve.Decode(k)
	if !ok {
		t.Fatalf("Decode(%x): none", k)
	}
	return p
}

// smallOrders: by their order, all points of the orders 1, 2, 4 and 8.
func smallOrders() map[int64][]api.Key {
	eight, other := api.Key(unhex("26e8958fc2b227b045c3f489f2ef98f0d5dfac05d3c63339b13802886d53fc05")), api.Key(unhex("c7176a703d4dd84fba3c0b760d10670f2a2053fa2c39ccc64ec7fd7792ac037a"))
	return map[int64][]api.Key{
		1: {small(1)},
		2: {above(-1)},
		4: {{}, high(api.Key{})},
		8: {eight, high(eight), other, high(other)},
	}
}

// otherwise: points of small orders that are written in another way, by how they are written rightly.
func otherwise() map[api.Key][]api.Key {
	return map[api.Key][]api.Key{
		small(1):        {high(small(1)), above(1), high(above(1))},
		above(-1):       {high(above(-1))},
		{}:              {above(0)},
		high(api.Key{}): {high(above(0))},
	}
}

// says: Verify says that.
func says(t *testing.T, what string, public api.Key, b []byte, s [64]byte, want bool) {
	t.Helper()
	if Verify(public, b, s) != want {
		t.Fatalf("%s: %x of %x by %x: not %v", what, s, b, public, want)
	}
}

// TestPublished: what RFC 8032 tells.
func TestPublished(t *testing.T) { // P7.1, P7.2
	abc := sha512.Sum512([]byte("abc"))
	for _, v := range []struct {
		secret, public string
		b              []byte
		s              string
	}{
		{
			"9d61b19deffd5a60ba844af492ec2cc44449c5697b326919703bac031cae7f60",
			"d75a980182b10ab7d54bfed3c964073a0ee172f3daa62325af021a68f707511a",
			nil,
			"e5564300c360ac729086e2cc806e828a84877f1eb8e5d974d873e065224901555fb8821590a33bacc61e39701cf9b46bd25bf5f0595bbe24655141438e7a100b",
		},
		{
			"4ccd089b28ff96da9db6c346ec114e0f5b8a319f35aba624da8cf6ed4fb8a6fb",
			"3d4017c3e843895a92b70aa74d1b7ebc9c982ccf2ec4968cc0cd55f12af4660c",
			[]byte{0x72},
			"92a009a9f0d4cab8720e820b5f642540a2b27b5416503f8fb3762223ebdb69da085ac1e43e15996e458f3613d0f11d8c387b2eaeb4302aeeb00d291612bb0c00",
		},
		{
			"c5aa8df43f9f837bedb7442f31dcb7b166d38535076f094b85ce3a2e0b4458f7",
			"fc51cd8e6218a1a38da47ed00230f0580816ed13ba3303ac5deb911548908025",
			[]byte{0xaf, 0x82},
			"6291d657deec24024827e69c3abe01a30ce548a284743a445e3680d7db5ac3ac18ff9b538d16f290ae67f760984dc6594a7c15e9716ed28dc027beceea1ec40a",
		},
		{
			"833fe62409237b9d62ec77587520911e9a759cec1d19755b7da901b96dca3d42",
			"ec172b93ad5e563bf4932c70e1245034c35467ef2efd4d64ebf819683467e2bf",
			abc[:],
			"dc2a4459e7369633a52b1bf277839a00201009a3efbf3ecb69bea2186c26b58909351fc9ac90b3ecfdfbc7c66431e0303dca179c138ac17ad9bef1177331a704",
		},
	} {
		secret, public, want := api.Key(unhex(v.secret)), api.Key(unhex(v.public)), [64]byte(unhex(v.s))
		if k := Public(secret); k != public {
			t.Errorf("Public(%x): %x", secret, k)
		}
		if s := Sign(secret, v.b); s != want {
			t.Errorf("Sign(%x, %x): %x", secret, v.b, s)
		}
		says(t, "published", public, v.b, want, true)
	}
}

func TestExamples(t *testing.T) { // P7.1
	if k := Public(api.Key{}); [4]byte(k[:4]) != [4]byte{0x3b, 0x6a, 0x27, 0xbc} {
		t.Errorf("Public of 32 noughts: %x", k)
	}
}

func TestPublic(t *testing.T) { // P7.1
	for _, secret := range secrets(1, 40) {
		got := Public(secret)
		if want := api.Key(library(secret)[32:]); got != want {
			t.Fatalf("Public(%x): %x, not %x", secret, got, want)
		}
		if want := times(numberOf(secret), curve.Base()).Encode(); got != want {
			t.Fatalf("Public(%x): %x, by the chapter %x", secret, got, want)
		}
	}
}

// TestPublicEachBit: each bit of a secret says something.
func TestPublicEachBit(t *testing.T) { // P7.1
	secret := some(2, 1)[0]
	seen := map[api.Key]int{Public(secret): -1}
	for at := range 256 {
		turned := secret
		turned[at/8] ^= 1 << (at % 8)
		public := Public(turned)
		if other, ok := seen[public]; ok {
			t.Fatalf("bit %d says nothing (as %d)", at, other)
		}
		seen[public] = at
	}
}

func TestSign(t *testing.T) { // P7.1, P7.2
	for _, secret := range secrets(3, 4) {
		public := Public(secret)
		for _, b := range texts(4) {
			s := Sign(secret, b)
			if want := ed25519.Sign(library(secret), b); !bytes.Equal(s[:], want) {
				t.Fatalf("Sign(%x, %x): %x, not %x", secret, b, s, want)
			}
			if again := Sign(secret, b); again != s {
				t.Fatalf("Sign(%x, %x): %x, then %x", secret, b, s, again)
			}
			says(t, "what Sign answers", public, b, s, true)
		}
	}
}

// TestSignByTheChapter: both halves, by whole numbers.
func TestSignByTheChapter(t *testing.T) { // P7.1
	for _, secret := range secrets(5, 4) {
		public, sum := Public(secret), sha512.Sum512(secret[:])
		for _, b := range texts(6) {
			inner := sha512.Sum512(append(slices.Clone(sum[32:]), b...))
			once := modulo(number(inner[:]))
			first := times(once, curve.Base()).Encode()
			second := hangs(first, public, b)
			modulo(second.Add(second.Mul(second, numberOf(secret)), once))
			if s, want := Sign(secret, b), joined(first, key(second)); s != want {
				t.Fatalf("Sign(%x, %x): %x, not %x", secret, b, s, want)
			}
		}
	}
}

func TestSignNone(t *testing.T) { // P7.1, R5
	for _, secret := range secrets(7, 3) {
		s := Sign(secret, nil)
		if s != Sign(secret, []byte{}) || s == Sign(secret, []byte{0}) {
			t.Errorf("Sign(%x) of no bytes", secret)
		}
		says(t, "nil as empty", Public(secret), []byte{}, s, true)
		says(t, "nil", Public(secret), nil, s, true)
		says(t, "a nought", Public(secret), []byte{0}, s, false)
	}
}

// TestSignByChance: as the library does, and taken by it and by Verify.
func TestSignByChance(t *testing.T) { // P7.1, P7.2
	r := rand.New(rand.NewSource(8))
	for _, secret := range some(9, 150) {
		b := make([]byte, r.Intn(400))
		r.Read(b)
		public, s := Public(secret), Sign(secret, b)
		if !ed25519.Verify(public[:], b, s[:]) || !bytes.Equal(ed25519.Sign(library(secret), b), s[:]) {
			t.Fatalf("Sign(%x, %x): %x", secret, b, s)
		}
		says(t, "what Sign answers", public, b, s, true)
	}
}

// TestVerifyTurnedBytes: one bit turned of what was signed; and some bytes more or less of it.
func TestVerifyTurnedBytes(t *testing.T) { // P7.1
	r := rand.New(rand.NewSource(10))
	for i, b := range texts(11) {
		secret := some(int64(12+i), 1)[0]
		public, s := Public(secret), Sign(secret, b)
		bits := r.Perm(8 * len(b))
		for _, at := range bits[:min(len(bits), 40)] {
			turned := slices.Clone(b)
			turned[at/8] ^= 1 << (at % 8)
			says(t, "a bit turned", public, turned, s, false)
		}
		says(t, "one byte more", public, append(slices.Clone(b), 0), s, false)
		says(t, "one byte ahead", public, append([]byte{0}, b...), s, false)
		if len(b) > 0 {
			says(t, "one byte less", public, b[:len(b)-1], s, false)
			says(t, "without the first", public, b[1:], s, false)
			says(t, "none", public, nil, s, false)
		}
	}
}

// TestVerifyTurnedSignature: any one bit turned of it.
func TestVerifyTurnedSignature(t *testing.T) { // P7.1
	for i, b := range [][]byte{nil, {7}, []byte("some bytes")} {
		secret := some(int64(50+i), 1)[0]
		public, s := Public(secret), Sign(secret, b)
		for at := range 512 {
			turned := s
			turned[at/8] ^= 1 << (at % 8)
			says(t, "a bit turned", public, b, turned, false)
		}
		says(t, "none turned", public, b, s, true)
	}
}

// TestVerifyTurnedBytesOfSignature: each byte of it, by each of some patterns.
func TestVerifyTurnedBytesOfSignature(t *testing.T) { // P7.1
	secret, b := some(53, 1)[0], []byte("these")
	public, s := Public(secret), Sign(secret, b)
	for at := range s {
		for _, pattern := range []byte{255, 0xf0, 0x0f, 0x81} {
			turned := s
			turned[at] ^= pattern
			says(t, "a byte turned", public, b, turned, false)
		}
	}
}

// TestVerifyTurnedPublic: any one bit turned of the public key; and other keys.
func TestVerifyTurnedPublic(t *testing.T) { // P7.1
	secret, b := some(54, 1)[0], []byte("some bytes")
	public, s := Public(secret), Sign(secret, b)
	for at := range 256 {
		turned := public
		turned[at/8] ^= 1 << (at % 8)
		says(t, "a bit turned", turned, b, s, false)
	}
	for _, other := range secrets(55, 20) {
		says(t, "another's", Public(other), b, s, false)
		says(t, "a secret", other, b, s, false)
	}
	says(t, "the secret", secret, b, s, false)
}

func TestVerifyMixedHalves(t *testing.T) { // P7.1
	list := some(56, 6)
	for _, b := range [][]byte{nil, {1}, []byte("some bytes")} {
		for i, secret := range list {
			public, s := Public(secret), Sign(secret, b)
			first, second := api.Key(s[:32]), api.Key(s[32:])
			says(t, "turned round", public, b, joined(second, first), false)
			says(t, "the first half twice", public, b, joined(first, first), false)
			says(t, "the second half twice", public, b, joined(second, second), false)
			for _, other := range [][64]byte{Sign(secret, []byte("other bytes")), Sign(list[(i+1)%len(list)], b)} {
				says(t, "another's second half", public, b, joined(first, api.Key(other[32:])), false)
				says(t, "another's first half", public, b, joined(api.Key(other[:32]), second), false)
				says(t, "another's", public, b, other, false)
			}
		}
	}
}

// TestVerifySecondNotBelow: the order added to a second half changes no point, but it isn't below it.
func TestVerifySecondNotBelow(t *testing.T) { // P7.1
	for i, b := range texts(57)[:12] {
		secret := some(int64(58+i), 1)[0]
		public, s := Public(secret), Sign(secret, b)
		first, n := api.Key(s[:32]), number(s[32:])
		for n.Add(n, order()); n.BitLen() <= 256; n.Add(n, order()) {
			says(t, "the order added", public, b, joined(first, key(n)), false)
		}
		for _, k := range []api.Key{beyond(-1), beyond(0), beyond(1), bytesOf(255), high(bytesOf(255)), {}} {
			says(t, "another second half", public, b, joined(first, k), false)
		}
	}
}

// TestVerifySecondAround: of the public key Zero, whatever is signed, the first half is the second times Base: as long as that is below the order.
func TestVerifySecondAround(t *testing.T) { // P7.1
	zero := curve.Zero().Encode()
	for _, b := range texts(70)[:10] {
		for _, n := range []int64{-3, -2, -1, 0, 1, 2, 3} {
			k := beyond(n)
			says(t, "around the order", zero, b, joined(curve.Mul(k, curve.Base()).Encode(), k), n < 0)
			if n >= 0 {
				says(t, "around 0", zero, b, joined(curve.Mul(k, curve.Base()).Encode(), small(n)), true)
			}
		}
		for _, k := range []api.Key{bytesOf(255), high(bytesOf(255)), {31: 32}, {31: 64}, {31: 128}, high(small(1)), {15: 255, 31: 16}} {
			first := curve.Mul(k, curve.Base()).Encode()
			says(t, "by the order", zero, b, joined(first, k), number(k[:]).Cmp(order()) < 0)
			says(t, "reduced", zero, b, joined(first, key(modulo(number(k[:])))), true)
		}
	}
}

// TestVerifySmallPublic: public keys of the orders 1, 2, 4 and 8: right is only what k says.
func TestVerifySmallPublic(t *testing.T) { // P7.1
	for n, list := range smallOrders() {
		for _, public := range list {
			p, right := decoded(t, public), 0
			for i, k := range append(some(71, 2), api.Key{}, small(1), beyond(-1)) {
				second := modulo(number(k[:]))
				for j := range n {
					first := curve.Add(times(second, curve.Base()), times(big.NewInt(j), p).Neg()).Encode()
					for _, b := range [][]byte{nil, {byte(i)}, {1, 2, byte(j)}} {
						rest := hangs(first, public, b)
						want := rest.Mod(rest, big.NewInt(n)).Int64() == j
						s := joined(first, key(second))
						says(t, "a small public key", public, b, s, want)
						if ed25519.Verify(public[:], b, s[:]) != want {
							t.Fatalf("the library tells %x of %x by %x otherwise", s, b, public)
						}
						if want {
							right++
						}
					}
				}
			}
			if right == 0 {
				t.Errorf("%x: none was right", public)
			}
		}
	}
}

// TestVerifySmallFirst: first halves of the orders 1, 2, 4 and 8, of an ordinary public key: right is Zero's alone, with its second half.
func TestVerifySmallFirst(t *testing.T) { // P7.1
	for _, secret := range secrets(72, 3) {
		public := Public(secret)
		for _, b := range [][]byte{nil, {5}, []byte("some bytes")} {
			for n, list := range smallOrders() {
				for _, first := range list {
					k := hangs(first, public, b)
					second := modulo(k.Mul(k, numberOf(secret)))
					says(t, "a small first half", public, b, joined(first, key(second)), n == 1)
					says(t, "with no second", public, b, joined(first, api.Key{}), false)
				}
			}
		}
	}
}

// TestVerifyNotEightTimes: of a public key outside of Base's group, both sides have to be the same, not eight times them alone.
func TestVerifyNotEightTimes(t *testing.T) { // P7.1
	for i, secret := range secrets(73, 3) {
		a := numberOf(secret)
		for _, k := range smallOrders()[8] {
			p := decoded(t, k)
			public := curve.Add(times(a, curve.Base()), p).Encode()
			once := modulo(number(some(int64(74+i), 1)[0][:]))
			for j := range int64(8) {
				first := curve.Add(times(once, curve.Base()), times(big.NewInt(j), p).Neg()).Encode()
				b := []byte{byte(j)}
				rest := hangs(first, public, b)
				second := new(big.Int).Mul(rest, a)
				modulo(second.Add(second, once))
				want := rest.Mod(rest, big.NewInt(8)).Int64() == j
				says(t, "outside of Base's group", public, b, joined(first, key(second)), want)
			}
		}
	}
}

// TestVerifyFirstOtherwise: first halves that would be right, were they not written in another way.
func TestVerifyFirstOtherwise(t *testing.T) { // P7.1
	public := small(1) // Zero: so that k doesn't matter
	says(t, "Zero", public, nil, joined(small(1), api.Key{}), true)
	for _, first := range otherwise()[small(1)] {
		for _, b := range texts(75)[:8] {
			says(t, "Zero, otherwise", public, b, joined(first, api.Key{}), false)
		}
	}
	for _, public := range smallOrders()[4] {
		p := decoded(t, public)
		for right, list := range otherwise() {
			for _, first := range list {
				found := 0
				for i := range 64 {
					b := []byte{byte(i)}
					if times(hangs(first, public, b), p).Neg().Encode() == right {
						found++
						says(t, "otherwise", public, b, joined(first, api.Key{}), false)
					}
				}
				if found == 0 {
					t.Errorf("%x by %x: never as k says", first, public)
				}
			}
		}
	}
}

// TestVerifyFirstNoPoint: first halves that are no point's.
func TestVerifyFirstNoPoint(t *testing.T) { // P7.1
	secret, b := some(76, 1)[0], []byte("some bytes")
	public, s := Public(secret), Sign(secret, b)
	none := 0
	for _, first := range append(some(77, 40), small(2), above(2), bytesOf(255), high(bytesOf(255))) {
		if _, ok := curve.Decode(first); !ok {
			none++
		}
		for _, second := range []api.Key{api.Key(s[32:]), {}, small(1)} {
			says(t, "by a key", public, b, joined(first, second), false)
			says(t, "by Zero", small(1), b, joined(first, second), false)
		}
	}
	if none < 10 {
		t.Errorf("only %d that are no point's", none)
	}
}

// TestVerifyPublicOtherwise: public keys that would do, were they not written in another way.
func TestVerifyPublicOtherwise(t *testing.T) { // P7.1
	for right, list := range otherwise() {
		p := decoded(t, right)
		for _, public := range list {
			found := 0
			for i := range 48 {
				b := []byte{byte(i)}
				second := some(int64(78+i), 1)[0]
				second[31] &= 15
				j := big.NewInt(int64(i % 4))
				first := curve.Add(curve.Mul(second, curve.Base()), times(j, p).Neg()).Encode()
				if curve.Add(curve.Mul(second, curve.Base()), times(hangs(first, public, b), p).Neg()).Encode() == first {
					found++
				}
				says(t, "otherwise", public, b, joined(first, second), false)
			}
			if found == 0 {
				t.Errorf("%x: never as k says", public)
			}
		}
	}
}

// TestVerifyPublicNoPoint: public keys that are no point's, or whose y isn't below the prime.
func TestVerifyPublicNoPoint(t *testing.T) { // P7.1
	secret, b := some(79, 1)[0], []byte("some bytes")
	list := []api.Key{small(2), bytesOf(255), high(bytesOf(255)), high(small(1)), high(above(-1))}
	for n := range int64(19) {
		list = append(list, above(n), high(above(n)))
	}
	for _, k := range some(80, 40) {
		if _, ok := curve.Decode(k); !ok {
			list = append(list, k)
		}
	}
	first := curve.Base().Encode()
	for _, public := range list {
		says(t, "what another signed", public, b, Sign(secret, b), false)
		says(t, "Base, once", public, b, joined(first, small(1)), false)
		says(t, "Zero, never", public, b, joined(small(1), api.Key{}), false)
		says(t, "of noughts", public, b, [64]byte{}, false)
	}
}

// TestVerifyNoughts: a signature of noughts: its first half is a point of the order 4.
func TestVerifyNoughts(t *testing.T) { // P7.1
	for _, secret := range secrets(81, 5) {
		for _, b := range texts(82)[:6] {
			says(t, "of noughts", Public(secret), b, [64]byte{}, false)
		}
	}
	for i, public := range smallOrders()[4] {
		right := 0
		for n := range 32 {
			b := []byte{byte(n)}
			rest := hangs(api.Key{}, public, b)
			// The first of the two is the opposite of three times itself, the second its opposite.
			want := rest.Mod(rest, big.NewInt(4)).Int64() == []int64{3, 1}[i]
			says(t, "of noughts by noughts", public, b, [64]byte{}, want)
			if want {
				right++
			}
		}
		if right == 0 || right == 32 {
			t.Errorf("%x: %d were right", public, right)
		}
	}
}

// TestVerifyAsTheLibrary: of what is nearly right; the library says the same of keys that are written rightly.
func TestVerifyAsTheLibrary(t *testing.T) { // P7.1
	r := rand.New(rand.NewSource(83))
	for i, secret := range some(84, 150) {
		b := make([]byte, r.Intn(60))
		r.Read(b)
		public, s := Public(secret), Sign(secret, b)
		switch i % 3 {
		case 0:
			s[r.Intn(64)] ^= byte(r.Intn(4))
		case 1:
			s = joined(api.Key(s[:32]), some(int64(85+i), 1)[0])
		}
		says(t, "as the library", public, b, s, ed25519.Verify(public[:], b, s[:]))
	}
}

// TestArgumentsStay: what is handed in stays as it was, spare room included, and that isn't read.
func TestArgumentsStay(t *testing.T) { // R6
	secret := some(86, 1)[0]
	for _, n := range []int{0, 1, 32, 95, 96, 97, 127, 128, 129, 1000} {
		room := bytes.Repeat([]byte{0xa5}, n+300)
		b := room[:n]
		held := slices.Clone(room)
		s := Sign(secret, b)
		says(t, "with spare room", Public(secret), b, s, true)
		says(t, "with spare room", Public(secret), b, [64]byte{}, false)
		if !bytes.Equal(room, held) {
			t.Fatalf("%d bytes: changed", n)
		}
		for i := n; i < len(room); i++ {
			room[i] = byte(i)
		}
		if Sign(secret, b) != s || Sign(secret, slices.Clone(b)) != s {
			t.Fatalf("%d bytes: the spare room is told", n)
		}
	}
}

// TestNotKept: what changes in the bytes afterwards changes no answer.
func TestNotKept(t *testing.T) { // R6
	secret, b := some(87, 1)[0], []byte("some bytes")
	s := Sign(secret, b)
	held := s
	b[0] ^= 1
	if s != held || Sign(secret, b) == s || Sign(secret, []byte("some bytes")) != s {
		t.Error("the bytes are kept")
	}
}

// TestAgain: the same answers to the same arguments, whatever came between.
func TestAgain(t *testing.T) { // R8
	list, texts := secrets(88, 4), texts(89)[:12]
	told := map[api.Key][64]byte{}
	for i, secret := range list {
		told[secret] = Sign(secret, texts[i])
	}
	for i := range list {
		i = len(list) - 1 - i
		for _, b := range texts {
			Verify(list[i], b, [64]byte{1})
			Sign(list[(i+1)%len(list)], b)
		}
		if Sign(list[i], texts[i]) != told[list[i]] || Public(list[i]) != Public(list[i]) {
			t.Fatalf("Sign(%x) told otherwise", list[i])
		}
		says(t, "again", Public(list[i]), texts[i], told[list[i]], true)
		says(t, "again, turned", Public(list[i]), append(texts[i], 1), told[list[i]], false)
	}
}

// TestAtOnce: the same answers from calls at one time.
func TestAtOnce(t *testing.T) { // R8
	b := []byte("some bytes")
	list := secrets(90, 8)
	var group sync.WaitGroup
	for _, secret := range list {
		want := [64]byte(ed25519.Sign(library(secret), b))
		group.Go(func() {
			for range 5 {
				if s := Sign(secret, b); s != want || !Verify(Public(secret), b, s) {
					t.Errorf("Sign(%x): %x, not %x", secret, s, want)
				}
			}
		})
	}
	group.Wait()
}

// TestEnds: none panics, at arguments by chance.
func TestEnds(t *testing.T) { // P1
	r := rand.New(rand.NewSource(91))
	for _, k := range append(some(92, 150), api.Key{}, bytesOf(255), above(0), beyond(0)) {
		b := make([]byte, r.Intn(300))
		r.Read(b)
		var s [64]byte
		r.Read(s[:])
		says(t, "by chance", k, b, s, false)
		Public(k)
		Sign(k, b)
	}
}
