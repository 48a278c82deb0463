package ladder

import (
	"crypto/ecdh"
	"encoding/hex"
	"math/big"
	"math/rand"
	"slices"
	"sync"
	"testing"

	"skiff/api"
)

// prime is 2^255 - 19.
func prime() *big.Int {
	p := new(big.Int).Lsh(big.NewInt(1), 255)
	return p.Sub(p, big.NewInt(19))
}

// key: a number below 2^256 as 32 bytes, the lowest first.
func key(n *big.Int) api.Key {
	var k api.Key
	n.FillBytes(k[:])
	slices.Reverse(k[:])
	return k
}

// number: the number of all 256 bits of 32 bytes.
func number(k api.Key) *big.Int {
	slices.Reverse(k[:])
	return new(big.Int).SetBytes(k[:])
}

// above: the prime and a number, as 32 bytes.
func above(n int64) api.Key { return key(new(big.Int).Add(prime(), big.NewInt(n))) }

// small: a small number as 32 bytes.
func small(n int64) api.Key { return key(big.NewInt(n)) }

// high: with the highest bit set.
func high(k api.Key) api.Key { return withBit(k, 255, 1) }

// unhex: the 32 bytes that a text of base sixteen tells.
func unhex(text string) api.Key {
	b, err := hex.DecodeString(text)
	if err != nil {
		panic(err)
	}
	return api.Key(b)
}

// bytesOf: 32 bytes that are all the same.
func bytesOf(b byte) api.Key {
	var k api.Key
	for i := range k {
		k[i] = b
	}
	return k
}

// some: so many keys by chance, always the same ones.
func some(seed int64, n int) []api.Key {
	r := rand.New(rand.NewSource(seed))
	keys := make([]api.Key, n)
	for i := range keys {
		r.Read(keys[i][:])
	}
	return keys
}

// secrets: of noughts, of all bits, and around them; others by chance.
func secrets(seed int64, n int) []api.Key {
	return append([]api.Key{{}, bytesOf(255), {1}, {7}, {8}, {31: 64}, {31: 127}, {31: 128}, bytesOf(85), bytesOf(170)}, some(seed, n)...)
}

// places: around 0, 9 and the prime, up to 2^255 - 1, each with the highest bit set and not set.
func places() []api.Key {
	var list []api.Key
	for n := range int64(20) {
		list = append(list, small(n), above(-n))
	}
	for n := int64(1); n < 19; n++ {
		list = append(list, above(n))
	}
	for _, k := range slices.Clone(list) {
		list = append(list, high(k))
	}
	return list
}

// withBit: with one of its bits set, or not set.
func withBit(k api.Key, at int, bit byte) api.Key {
	k[at/8] = k[at/8]&^(1<<(at%8)) | bit<<(at%8)
	return k
}

// turned: with one of its bits turned.
func turned(k api.Key, at int) api.Key {
	k[at/8] ^= 1 << (at % 8)
	return k
}

// silent: the same secret with each setting of the bits that say nothing: the lowest three, and the two that Clamp sets above.
func silent(k api.Key) []api.Key {
	var list []api.Key
	for i := range byte(32) {
		s := k
		for j, at := range []int{0, 1, 2, 254, 255} {
			s = withBit(s, at, i>>j&1)
		}
		list = append(list, s)
	}
	return list
}

// point is one of the curve b y^2 = x^3 + 486662 x^2 + x; nil: at infinity.
type point struct{ x, y *big.Int }

// modulo: a number that is its own, modulo the prime.
func modulo(n *big.Int) *big.Int { return n.Mod(n, prime()) }

func mul(x, y *big.Int) *big.Int { return modulo(new(big.Int).Mul(x, y)) }

func over(x, y *big.Int) *big.Int { return mul(x, new(big.Int).ModInverse(y, prime())) }

// cubic: x^3 + 486662 x^2 + x.
func cubic(x *big.Int) *big.Int {
	n := new(big.Int).Add(x, big.NewInt(486662))
	return mul(x, n.Add(mul(n, x), big.NewInt(1)))
}

// lies: the b of a curve on which a place lies, and the point there. With a y of 1, that b is the cubic: the curve is the chapter's, in other units of y, if it is a square, else its twist.
func lies(place api.Key) (b *big.Int, p *point) {
	x := modulo(number(withBit(place, 255, 0)))
	if x.Sign() == 0 {
		return big.NewInt(1), &point{x, new(big.Int)}
	}
	return cubic(x), &point{x, big.NewInt(1)}
}

// slope: of the line through two points, or of that which touches at one; false: it goes through infinity.
func slope(b *big.Int, p, q *point) (*big.Int, bool) {
	if p.x.Cmp(q.x) != 0 {
		return over(new(big.Int).Sub(q.y, p.y), modulo(new(big.Int).Sub(q.x, p.x))), true
	}
	if modulo(new(big.Int).Add(p.y, q.y)).Sign() == 0 {
		return nil, false
	}
	n := new(big.Int).Mul(p.x, big.NewInt(3))
	n.Add(n, big.NewInt(2*486662))
	n.Add(n.Mul(n, p.x), big.NewInt(1))
	return over(n, mul(big.NewInt(2), mul(b, p.y))), true
}

// add: the sum of two points, by chord and tangent.
func add(b *big.Int, p, q *point) *point {
	if p == nil {
		return q
	}
	if q == nil {
		return p
	}
	s, ok := slope(b, p, q)
	if !ok {
		return nil
	}
	x := mul(b, mul(s, s))
	x.Sub(x, big.NewInt(486662))
	x.Sub(x, p.x)
	modulo(x.Sub(x, q.x))
	y := mul(s, new(big.Int).Sub(p.x, x))
	return &point{x, modulo(y.Sub(y, p.y))}
}

// times: the sum of so many p.
func times(b, n *big.Int, p *point) *point {
	var sum *point
	for i := n.BitLen() - 1; i >= 0; i-- {
		sum = add(b, sum, sum)
		if n.Bit(i) == 1 {
			sum = add(b, sum, p)
		}
	}
	return sum
}

// clamped: what Clamp promises, bit by bit.
func clamped(k api.Key) api.Key {
	for at := range 256 {
		switch at {
		case 0, 1, 2, 255:
			k = withBit(k, at, 0)
		case 254:
			k = withBit(k, at, 1)
		}
	}
	return k
}

// byPoints: the promised x, by whole points.
func byPoints(secret, place api.Key) api.Key {
	b, p := lies(place)
	sum := times(b, number(clamped(secret)), p)
	if sum == nil {
		return api.Key{}
	}
	return key(sum.x)
}

// byLibrary: the promised x, by the library; it refuses to answer noughts.
func byLibrary(t *testing.T, secret, place api.Key) api.Key {
	t.Helper()
	s, err := ecdh.X25519().NewPrivateKey(secret[:])
	if err != nil {
		t.Fatal(err)
	}
	p, err := ecdh.X25519().NewPublicKey(place[:])
	if err != nil {
		t.Fatal(err)
	}
	b, err := s.ECDH(p)
	if err != nil {
		return api.Key{}
	}
	return api.Key(b)
}

// gives: a secret times a place is that: told by Mul, and by Shared.
func gives(t *testing.T, secret, place, want api.Key) {
	t.Helper()
	if got := Mul(secret, place); got != want {
		t.Fatalf("Mul(%x, %x): %x, not %x", secret, place, got, want)
	}
	if got, ok := Shared(secret, place); got != want || ok != (want != api.Key{}) {
		t.Fatalf("Shared(%x, %x): %x, %v", secret, place, got, ok)
	}
}

func TestClampEachBit(t *testing.T) { // P5.1
	for _, k := range secrets(1, 30) {
		for at := range 256 {
			for bit := range byte(2) {
				s := withBit(k, at, bit)
				if got, want := Clamp(s), clamped(s); got != want {
					t.Fatalf("Clamp(%x): %x, not %x", s, got, want)
				}
			}
		}
	}
}

func TestClampChangedBits(t *testing.T) { // P5.1
	for _, k := range secrets(2, 30) {
		want := clamped(k)
		for _, s := range silent(k) {
			if got := Clamp(s); got != want {
				t.Fatalf("Clamp(%x): %x, not %x", s, got, want)
			}
		}
	}
}

func TestClampWritten(t *testing.T) { // P5.1
	full := bytesOf(255)
	full[0], full[31] = 0xf8, 0x7f
	for _, c := range []struct{ k, want api.Key }{
		{api.Key{}, api.Key{31: 64}},
		{bytesOf(255), full},
		{api.Key{7, 7, 31: 128}, api.Key{0, 7, 31: 64}},
		{api.Key{8, 31: 63}, api.Key{8, 31: 127}},
		// The number that RFC 7748 tells of its first secret.
		{unhex("a546e36bf0527c9d3b16154b82465edd62144c0ac1fc5a18506a2244ba449ac4"), unhex("a046e36bf0527c9d3b16154b82465edd62144c0ac1fc5a18506a2244ba449a44")},
	} {
		if got := Clamp(c.k); got != c.want || Clamp(got) != got {
			t.Errorf("Clamp(%x): %x, not %x", c.k, got, c.want)
		}
	}
}

func TestMulWritten(t *testing.T) { // P5.1
	for _, c := range [][3]string{ // RFC 7748, 5.2
		{"a546e36bf0527c9d3b16154b82465edd62144c0ac1fc5a18506a2244ba449ac4", "e6db6867583030db3594c1a424b15f7c726624ec26b3353b10a903a6d0ab1c4c", "c3da55379de9c6908e94ea4df28d084f32eccf03491c71f754b4075577a28552"},
		{"4b66e9d4d1b4673c5ad22691957d6af5c11b6421e0ea01d42ca4169e7918ba0d", "e5210f12786811d3f4b7959d0538ae2c31dbe7106fc03c3efc4cd549c715a493", "95cbde9476e8907d7aade45cb4b873f88b595a68799fa152e6f8f7647aac7957"},
	} {
		gives(t, unhex(c[0]), unhex(c[1]), unhex(c[2]))
	}
}

func TestMulAgain(t *testing.T) { // P5.1
	k, u := small(9), small(9)
	for n := 1; n <= 1000; n++ {
		k, u = Mul(k, u), k
		switch {
		case n == 1 && k != unhex("422c8e7a6227d7bca1350b3e2bb7279f7897b87bb6854b783c60e80311ae3079"),
			n == 1000 && k != unhex("684cf59ba83309552800ef566f2f4d3c1c3887c49360e3875f2eb94d99532c51"): // RFC 7748, 5.2
			t.Fatalf("multiplied %d times: %x", n, k)
		}
	}
}

func TestMulPlaces(t *testing.T) { // P5.1
	for _, s := range secrets(3, 5) {
		for _, p := range places() {
			gives(t, s, p, byLibrary(t, s, p))
		}
	}
}

func TestMulSome(t *testing.T) { // P5.1
	at := append(places(), some(4, 500)...)
	for i, s := range some(5, len(at)) {
		gives(t, s, at[i], byLibrary(t, s, at[i]))
	}
}

// TestMulByPoints: by the definition: so many times a point, on the curve and on its twist.
func TestMulByPoints(t *testing.T) { // P5.1
	at := append([]api.Key{{}, {1}, {9}, above(-1), above(0), above(1), above(9), above(18)}, some(6, 30)...)
	for n := range int64(10) {
		at = append(at, small(n), high(small(n)), above(-n))
	}
	list := secrets(7, 20)
	var curve, twist int
	for i, p := range at {
		s := list[i%len(list)]
		gives(t, s, p, byPoints(s, p))
		if b, _ := lies(p); big.Jacobi(b, prime()) == 1 {
			curve++
		} else {
			twist++
		}
	}
	if curve < 10 || twist < 10 {
		t.Errorf("%d places on the curve, %d on its twist", curve, twist)
	}
}

func TestMulSecretsEdges(t *testing.T) { // P5.1
	for _, p := range []api.Key{{9}, {2}, {3}, above(-2), above(9), withBit(some(8, 1)[0], 255, 0)} {
		for _, s := range []api.Key{{}, bytesOf(255)} {
			want := byPoints(s, p)
			gives(t, s, p, want)
			gives(t, s, high(p), want)
		}
	}
}

func TestNotReduced(t *testing.T) { // P5.1
	for _, s := range secrets(9, 5) {
		for n := range int64(19) {
			want := Mul(s, small(n))
			gives(t, s, above(n), want)
			gives(t, s, high(above(n)), want)
		}
	}
	if high(above(18)) != bytesOf(255) {
		t.Error("the prime and 18 isn't 2^255 - 1")
	}
}

func TestBitsThatSayNothing(t *testing.T) { // P5.1
	at := append([]api.Key{{9}, {2}, above(-2), above(3)}, some(10, 3)...)
	for i, k := range secrets(11, 3) {
		p := at[i%len(at)]
		want, public := byLibrary(t, k, p), byLibrary(t, k, api.Key{9})
		for _, s := range silent(k) {
			gives(t, s, withBit(p, 255, 0), want)
			gives(t, s, withBit(p, 255, 1), want)
			if got := Public(s); got != public {
				t.Fatalf("Public(%x): %x, not %x", s, got, public)
			}
		}
	}
}

func TestBitsThatSay(t *testing.T) { // P5.1
	s, p := some(12, 1)[0], some(13, 1)[0]
	seen := map[api.Key]int{Mul(s, p): -1}
	tell := func(what string, at int, k api.Key) {
		t.Helper()
		if other, ok := seen[k]; ok {
			t.Fatalf("the %s's bit %d says nothing (as %d)", what, at, other)
		}
		seen[k] = at
	}
	for at := 3; at < 254; at++ {
		tell("secret", at, Mul(turned(s, at), p))
	}
	for at := range 255 {
		tell("place", at, Mul(s, turned(p, at)))
	}
}

func TestPublic(t *testing.T) { // P5.1
	for _, s := range secrets(14, 100) {
		got := Public(s)
		if want := byLibrary(t, s, api.Key{9}); got != want || Mul(s, api.Key{9}) != want {
			t.Fatalf("Public(%x): %x, not %x", s, got, want)
		}
	}
	for _, c := range [][2]string{
		{"77076d0a7318a57d3c16c17251b26645df4c2f87ebc0992ab177fba51db92c2a", "8520f0098930a754748b7ddcb43ef75a0dbf3a0d26381af4eba4a98eaa9b4e6a"}, // RFC 7748, 6.1
		{"5dab087e624a8a4b79e17f8b83800ee66f3bb1292618b6fd1c2f8b27ff88e0eb", "de9edb7d7b7dc1b4d35b61c2ece435373f8343c85b78674dadfc7e146f882b4f"},
		{"49af42ba7f7994852d713ef2784bcbcaa7911de26adc5642cb634540e7ea5005", "99381de560e4bd43d23d8e435a7dbafeb3c06e51c13cae4d5413691e529aaf2c"}, // RFC 8448, 3
		{"b1580eeadf6dd589b8ef4f2d5652578cc810e9980191ec8d058308cea216a21e", "c9828876112095fe66762bdbf7c672e156d6cc253b833df1dd69b1b04e751f0f"},
	} {
		if got := Public(unhex(c[0])); got != unhex(c[1]) {
			t.Errorf("Public(%s): %x, not %s", c[0], got, c[1])
		}
	}
}

func TestSharedWritten(t *testing.T) { // P5.1, P5.2
	for _, c := range [][3]string{
		{"77076d0a7318a57d3c16c17251b26645df4c2f87ebc0992ab177fba51db92c2a", "5dab087e624a8a4b79e17f8b83800ee66f3bb1292618b6fd1c2f8b27ff88e0eb", "4a5d9d5ba4ce2de1728e3bf480350f25e07e21c947d19e3376f09b3c1e161742"}, // RFC 7748, 6.1
		{"49af42ba7f7994852d713ef2784bcbcaa7911de26adc5642cb634540e7ea5005", "b1580eeadf6dd589b8ef4f2d5652578cc810e9980191ec8d058308cea216a21e", "8bd4054fb55b9d63fdfbacf9f04b9f0d35e6d63f537563efd46272900f89492d"}, // RFC 8448, 3
	} {
		one, other, want := unhex(c[0]), unhex(c[1]), unhex(c[2])
		gives(t, one, Public(other), want)
		gives(t, other, Public(one), want)
	}
}

func TestShareTheSame(t *testing.T) { // P5.2
	list := secrets(15, 60)
	for i, one := range list {
		for _, other := range []api.Key{list[(i*7+3)%len(list)], {}, bytesOf(255), one} {
			want := byLibrary(t, one, Public(other))
			k, ok := Shared(one, Public(other))
			l, too := Shared(other, Public(one))
			if k != want || l != want || !ok || !too {
				t.Fatalf("%x and %x share %x, %v and %x, %v", one, other, k, ok, l, too)
			}
		}
	}
}

// smallOrders: all places of which eight times is the point at infinity, not reduced and with the highest bit, too.
func smallOrders() []api.Key {
	list := []api.Key{
		small(0), small(1), above(-1), above(0), above(1),
		unhex("e0eb7a7c3b41b8ae1656e3faf19fc46ada098deb9c32b1fd866205165f49b800"),
		unhex("5f9c95bca3508c24b1d0b1559c83ef5b04445cc4581c8e86d8224eddd09f1157"),
	}
	for _, k := range slices.Clone(list) {
		list = append(list, high(k))
	}
	return list
}

func TestSmallOrders(t *testing.T) { // P5.1
	for _, p := range smallOrders() {
		b, at := lies(p)
		if times(b, big.NewInt(8), at) != nil {
			t.Fatalf("%x hasn't a small order", p)
		}
		for _, s := range secrets(16, 10) {
			gives(t, s, p, api.Key{})
		}
	}
}

// TestOtherOrders: what isn't of a small order is shared, however near it is.
func TestOtherOrders(t *testing.T) { // P5.1
	list := smallOrders()
	near := places()
	for _, p := range list[:7] {
		for at := range 255 {
			near = append(near, turned(p, at))
		}
	}
	for _, p := range near {
		if slices.Contains(list, p) {
			continue
		}
		if k, ok := Shared(api.Key{8}, p); !ok || k == (api.Key{}) {
			t.Fatalf("Shared with %x: %x, %v", p, k, ok)
		}
	}
}

func TestExample(t *testing.T) { // P5.1
	for _, s := range secrets(17, 30) {
		if k, ok := Shared(s, api.Key{}); ok || k != (api.Key{}) {
			t.Fatalf("Shared of %x with the place 0: %x, %v", s, k, ok)
		}
	}
}

// TestArgumentsStay: R6: what is handed in is as it was, and the answer is its own.
func TestArgumentsStay(t *testing.T) {
	for i, s := range secrets(18, 20) {
		p := append(smallOrders(), some(19, 20)...)[i]
		secret, place := s, p
		answers := []api.Key{Clamp(secret), Mul(secret, place), Public(secret)}
		before := slices.Clone(answers)
		shared, _ := Shared(secret, place)
		if secret != s || place != p {
			t.Fatalf("%x or %x was changed", s, p)
		}
		secret, place = bytesOf(3), bytesOf(4)
		Mul(secret, place)
		if !slices.Equal(answers, before) || shared != before[1] {
			t.Fatalf("of %x and %x an answer changed behind its call", s, p)
		}
	}
}

// TestSame: R8: the same is answered, whatever was asked before.
func TestSame(t *testing.T) {
	at := append(places(), smallOrders()...)
	for i, s := range some(20, 60) {
		p := at[i*5%len(at)]
		k, public := Mul(s, p), Public(s)
		shared, ok := Shared(s, p)
		Mul(p, s)
		Shared(s, api.Key{})
		Public(bytesOf(byte(i)))
		again, too := Shared(s, p)
		if Mul(s, p) != k || Public(s) != public || again != shared || too != ok || Clamp(s) != clamped(s) {
			t.Fatalf("of %x and %x one answer is given, and another", s, p)
		}
	}
}

// TestAtOnce: R8: calls that run at the same time answer what they would by themselves.
func TestAtOnce(t *testing.T) {
	list, at := some(21, 40), append(places()[:20], some(22, 20)...)
	var want [40]api.Key
	for i := range want {
		want[i] = byLibrary(t, list[i], at[i])
	}
	var group sync.WaitGroup
	for from := range 8 {
		group.Go(func() {
			for i := range want {
				i = (i + from*5) % len(want)
				if k := Mul(list[i], at[i]); k != want[i] {
					t.Errorf("Mul(%x, %x) at the same time: %x, not %x", list[i], at[i], k, want[i])
					return
				}
			}
		})
	}
	group.Wait()
}

func BenchmarkMul(b *testing.B) {
	k := api.Key{9}
	for range b.N {
		k = Mul(k, k)
	}
}
