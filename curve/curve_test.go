package curve

import (
	"crypto/ed25519"
	"crypto/sha512"
	"encoding/hex"
	"math/big"
	"math/rand"
	"slices"
	"sync"
	"testing"

	"skiff/api"
	"skiff/field"
)

// prime is 2^255 - 19.
func prime() *big.Int {
	p := new(big.Int).Lsh(big.NewInt(1), 255)
	return p.Sub(p, big.NewInt(19))
}

// order is 2^252 + 27742317777372353535851937790883648493.
func order() *big.Int {
	n, _ := new(big.Int).SetString("27742317777372353535851937790883648493", 10)
	return n.Add(n, new(big.Int).Lsh(big.NewInt(1), 252))
}

// key: a number below 2^256 as 32 bytes, the lowest first.
func key(n *big.Int) api.Key {
	var k api.Key
	n.FillBytes(k[:])
	slices.Reverse(k[:])
	return k
}

// number: the number of all 256 bits of 32 bytes.
func number(k api.Key) *big.Int {
	slices.Reverse(k[:])
	return new(big.Int).SetBytes(k[:])
}

// above: the prime and a number, as 32 bytes.
func above(n int64) api.Key { return key(new(big.Int).Add(prime(), big.NewInt(n))) }

// beyond: the order and a number, as 32 bytes.
func beyond(n int64) api.Key { return key(new(big.Int).Add(order(), big.NewInt(n))) }

// small: a small number as 32 bytes.
func small(n int64) api.Key { return key(big.NewInt(n)) }

// high: with the highest bit turned.
func high(k api.Key) api.Key {
	k[31] ^= 128
	return k
}

// unhex: the 32 bytes that a text of base sixteen tells.
func unhex(text string) api.Key {
	b, err := hex.DecodeString(text)
	if err != nil {
		panic(err)
	}
	return api.Key(b)
}

// bytesOf: 32 bytes that are all the same.
func bytesOf(b byte) api.Key {
	var k api.Key
	for i := range k {
		k[i] = b
	}
	return k
}

// some: so many keys by chance, always the same ones.
func some(seed int64, n int) []api.Key {
	r := rand.New(rand.NewSource(seed))
	keys := make([]api.Key, n)
	for i := range keys {
		r.Read(keys[i][:])
	}
	return keys
}

// pair is a point as the chapter writes it: its x, its y.
type pair struct{ x, y *big.Int }

// modulo: a number that is its own, modulo the prime.
func modulo(n *big.Int) *big.Int { return n.Mod(n, prime()) }

func mul(list ...*big.Int) *big.Int {
	n := big.NewInt(1)
	for _, x := range list {
		modulo(n.Mul(n, x))
	}
	return n
}

func over(x, y *big.Int) *big.Int { return mul(x, new(big.Int).ModInverse(y, prime())) }

// factor is the chapter's d.
func factor() *big.Int { return over(big.NewInt(-121665), big.NewInt(121666)) }

// lies: is -x^2 + y^2 = 1 + d x^2 y^2?
func (p pair) lies() bool {
	xx, yy := mul(p.x, p.x), mul(p.y, p.y)
	left := new(big.Int).Sub(yy, xx)
	right := mul(factor(), xx, yy)
	return modulo(left.Sub(left, right)).Cmp(big.NewInt(1)) == 0
}

// and: the sum of two, by the chapter's divisions.
func (p pair) and(q pair) pair {
	all := mul(factor(), p.x, q.x, p.y, q.y)
	x := new(big.Int).Add(mul(p.x, q.y), mul(q.x, p.y))
	y := new(big.Int).Add(mul(p.y, q.y), mul(p.x, q.x))
	one := big.NewInt(1)
	return pair{over(x, new(big.Int).Add(one, all)), over(y, modulo(new(big.Int).Sub(one, all)))}
}

// times: the sum of so many.
func (p pair) times(n *big.Int) pair {
	sum := pair{new(big.Int), big.NewInt(1)}
	for i := n.BitLen() - 1; i >= 0; i-- {
		sum = sum.and(sum)
		if n.Bit(i) == 1 {
			sum = sum.and(p)
		}
	}
	return sum
}

func (p pair) neg() pair { return pair{modulo(new(big.Int).Neg(p.x)), p.y} }

// bytes: y, and whether x is odd.
func (p pair) bytes() api.Key {
	k := key(p.y)
	k[31] |= byte(p.x.Bit(0)) << 7
	return k
}

// pairOf: the point that 32 bytes are of, by the chapter; false: none.
func pairOf(k api.Key) (pair, bool) {
	odd := uint(k[31] >> 7)
	k[31] &= 127
	y := number(k)
	if y.Cmp(prime()) >= 0 {
		return pair{}, false
	}
	yy := mul(y, y)
	under := new(big.Int).Add(mul(factor(), yy), big.NewInt(1))
	square := over(modulo(new(big.Int).Sub(yy, big.NewInt(1))), modulo(under))
	x := new(big.Int).ModSqrt(square, prime())
	if x == nil || x.Sign() == 0 && odd == 1 {
		return pair{}, false
	}
	if x.Bit(0) != odd {
		x.Sub(prime(), x)
	}
	return pair{x, y}, true
}

// meant: the pair that a Point tells by its bytes.
func meant(t *testing.T, p Point) pair {
	t.Helper()
	w, ok := pairOf(p.Encode())
	if !ok || !w.lies() {
		t.Fatalf("%x is no point's", p.Encode())
	}
	return w
}

// is: a Point is that: told by Encode, Decode and Same.
func is(t *testing.T, what string, got Point, want pair) {
	t.Helper()
	k := want.bytes()
	if b := got.Encode(); b != k {
		t.Fatalf("%s: %x, not %x", what, b, k)
	}
	p, ok := Decode(k)
	if !ok || p.Encode() != k || !p.Same(got) || !got.Same(p) {
		t.Fatalf("%s: %x isn't what it decodes to", what, k)
	}
}

// decoded: the Point that 32 bytes are of.
func decoded(t *testing.T, k api.Key) Point {
	t.Helper()
	p, ok := Decode(k)
	if !ok {
		t.Fatalf("Decode(%x): none", k)
	}
	return p
}

// smallOrders: by their order, all points of the orders 1, 2, 4 and 8.
func smallOrders() map[int64][]api.Key {
	eight, other := unhex("26e8958fc2b227b045c3f489f2ef98f0d5dfac05d3c63339b13802886d53fc05"), unhex("c7176a703d4dd84fba3c0b760d10670f2a2053fa2c39ccc64ec7fd7792ac037a")
	return map[int64][]api.Key{
		1: {small(1)},
		2: {above(-1)},
		4: {{}, high(api.Key{})},
		8: {eight, high(eight), other, high(other)},
	}
}

// smallPoints: all points of which eight times is Zero.
func smallPoints(t *testing.T) []Point {
	t.Helper()
	var list []Point
	for _, n := range []int64{1, 2, 4, 8} {
		for _, k := range smallOrders()[n] {
			list = append(list, decoded(t, k))
		}
	}
	return list
}

// onCurve: so many points by chance; of most of them the order times isn't Zero.
func onCurve(seed int64, n int) []Point {
	var list []Point
	for _, k := range some(seed, 4*n+20) {
		if p, ok := Decode(k); ok && len(list) < n {
			list = append(list, p)
		}
	}
	return list
}

// points: of small orders, Base and its opposite, others by chance.
func points(t *testing.T, seed int64, n int) []Point {
	t.Helper()
	list := append(smallPoints(t), Base(), Base().Neg())
	return append(list, onCurve(seed, n)...)
}

func TestZero(t *testing.T) { // P6.1
	is(t, "Zero", Zero(), pair{new(big.Int), big.NewInt(1)})
}

func TestBase(t *testing.T) { // P6.1
	w := meant(t, Base())
	if w.y.Cmp(over(big.NewInt(4), big.NewInt(5))) != 0 || w.x.Bit(0) != 0 {
		t.Errorf("Base: (%d, %d)", w.x, w.y)
	}
	is(t, "Base", Base(), w)
	if Base().Encode() == Base().Neg().Encode() {
		t.Error("the opposite of Base is Base")
	}
}

func TestWrittenOut(t *testing.T) { // P6.1
	if number(dBytes).Cmp(factor()) != 0 {
		t.Errorf("d is %x", dBytes)
	}
	if x := meant(t, Base()).x; number(baseX).Cmp(x) != 0 {
		t.Errorf("the x of Base is %x", baseX)
	}
}

func TestExamples(t *testing.T) { // P6.2
	if k := Zero().Encode(); k != (api.Key{1}) {
		t.Errorf("Zero: %x", k)
	}
	want := bytesOf(0x66)
	want[0] = 0x58
	if k := Base().Encode(); k != want {
		t.Errorf("Base: %x", k)
	}
}

func TestAddTwo(t *testing.T) { // P6.1
	list := points(t, 1, 15)
	for _, p := range list {
		for _, q := range list {
			is(t, "Add", Add(p, q), meant(t, p).and(meant(t, q)))
			if !Add(p, q).Same(Add(q, p)) {
				t.Fatalf("%x and %x: in the other order another", p.Encode(), q.Encode())
			}
		}
	}
}

func TestAddEdges(t *testing.T) { // P6.1
	zero := pair{new(big.Int), big.NewInt(1)}
	is(t, "of none", Add(), zero)
	is(t, "of an empty list", Add([]Point{}...), zero)
	is(t, "of nil", Add(nil...), zero)
	for _, p := range points(t, 2, 20) {
		w := meant(t, p)
		is(t, "of one", Add(p), w)
		is(t, "twice the same", Add(p, p), w.and(w))
		is(t, "four times the same", Add(p, p, p, p), w.times(big.NewInt(4)))
		is(t, "and its opposite", Add(p, p.Neg()), zero)
		is(t, "its opposite ahead", Add(p.Neg(), p), zero)
		is(t, "Zero ahead", Add(Zero(), p), w)
		is(t, "Zero behind", Add(p, Zero()), w)
		is(t, "Zero around", Add(Zero(), Zero(), p, Zero()), w)
	}
}

func TestAddMany(t *testing.T) { // P6.1
	r := rand.New(rand.NewSource(3))
	for _, n := range []int{2, 3, 4, 7, 30, 100} {
		list := append(points(t, 4, 20), onCurve(int64(n), 70)...)[:n]
		sum := pair{new(big.Int), big.NewInt(1)}
		for _, p := range list {
			sum = sum.and(meant(t, p))
		}
		for range 5 {
			is(t, "Add of many", Add(list...), sum)
			r.Shuffle(n, func(i, j int) { list[i], list[j] = list[j], list[i] })
		}
		cut := n / 2
		is(t, "Add of sums", Add(Add(list[:cut]...), Add(list[cut:]...)), sum)
	}
}

// numbers: 0 and what is near it, around the order and its multiples, powers of two, all bits; others by chance.
func numbers(seed int64, n int) []api.Key {
	list := []api.Key{bytesOf(255), high(bytesOf(255)), bytesOf(85), bytesOf(170), above(-1), above(0), above(1)}
	for i := range int64(18) {
		list = append(list, small(i))
	}
	for i := int64(-2); i < 3; i++ {
		list = append(list, beyond(i))
		for _, times := range []int64{2, 4, 8, 15} {
			m := new(big.Int).Mul(order(), big.NewInt(times))
			list = append(list, key(m.Add(m, big.NewInt(i))))
		}
	}
	return append(list, some(seed, n)...)
}

func TestMul(t *testing.T) { // P6.1
	list := points(t, 5, 8)
	for i, k := range numbers(6, 40) {
		for _, p := range []Point{Base(), list[i%len(list)]} {
			is(t, "Mul", Mul(k, p), meant(t, p).times(number(k)))
		}
	}
}

func TestMulPowersOfTwo(t *testing.T) { // P6.1
	for _, p := range append(onCurve(7, 2), Base(), smallPoints(t)[7]) {
		sum := p
		for bit := range uint(256) {
			k := key(new(big.Int).Lsh(big.NewInt(1), bit))
			if got := Mul(k, p); !got.Same(sum) || got.Encode() != sum.Encode() {
				t.Fatalf("2^%d times %x: %x, not %x", bit, p.Encode(), got.Encode(), sum.Encode())
			}
			sum = Add(sum, sum)
		}
	}
}

func TestMulEdges(t *testing.T) { // P6.1
	zero := pair{new(big.Int), big.NewInt(1)}
	for _, p := range points(t, 8, 20) {
		w := meant(t, p)
		is(t, "0 times", Mul(api.Key{}, p), zero)
		is(t, "1 times", Mul(small(1), p), w)
		is(t, "2 times", Mul(small(2), p), w.and(w))
		is(t, "8 times", Mul(small(8), p), w.times(big.NewInt(8)))
		is(t, "all bits times", Mul(bytesOf(255), p), w.times(number(bytesOf(255))))
		part := Mul(beyond(0), p)
		is(t, "the order times", part, w.times(order()))
		is(t, "the order less 1 times", Add(Mul(beyond(-1), p), p), meant(t, part))
		is(t, "the order and 1 times", Mul(beyond(1), p), meant(t, Add(part, p)))
	}
	for _, k := range numbers(9, 10) {
		is(t, "times Zero", Mul(k, Zero()), zero)
	}
}

func TestMulBase(t *testing.T) { // P6.1
	is(t, "the order times Base", Mul(beyond(0), Base()), meant(t, Zero()))
	is(t, "the order less 1 times Base", Mul(beyond(-1), Base()), meant(t, Base().Neg()))
	is(t, "the order and 1 times Base", Mul(beyond(1), Base()), meant(t, Base()))
	for _, n := range []int64{1, 2, 3, 4, 8} {
		if Mul(small(n), Base()).Same(Zero()) {
			t.Errorf("%d times Base is Zero", n)
		}
	}
}

// TestMulAsSums: so many times is the sum of so many.
func TestMulAsSums(t *testing.T) { // P6.1
	for _, p := range points(t, 10, 4) {
		var list []Point
		for n := range int64(40) {
			if got, want := Mul(small(n), p), Add(list...); !got.Same(want) || got.Encode() != want.Encode() {
				t.Fatalf("%d times %x: %x, not %x", n, p.Encode(), got.Encode(), want.Encode())
			}
			list = append(list, p)
		}
	}
}

// TestMulEachBit: each of a number's 256 bits says something of a point that isn't in Base's group.
func TestMulEachBit(t *testing.T) { // P6.1
	p, k := Add(Base(), smallPoints(t)[7]), some(11, 1)[0]
	seen := map[api.Key]int{Mul(k, p).Encode(): -1}
	for at := range 256 {
		turned := k
		turned[at/8] ^= 1 << (at % 8)
		b := Mul(turned, p).Encode()
		if other, ok := seen[b]; ok {
			t.Fatalf("bit %d says nothing (as %d)", at, other)
		}
		seen[b] = at
	}
}

// TestSmallOrders: of each point of a small order: that order, and no smaller one.
func TestSmallOrders(t *testing.T) { // P6.1, P6.2
	var seen []api.Key
	for order, list := range smallOrders() {
		for _, k := range list {
			p := decoded(t, k)
			if p.Encode() != k || slices.Contains(seen, k) {
				t.Fatalf("%x: %x, or twice", k, p.Encode())
			}
			seen = append(seen, k)
			for n := int64(1); n < 17; n++ {
				got := Mul(small(n), p)
				is(t, "Mul", got, meant(t, p).times(big.NewInt(n)))
				if got.Same(Zero()) != (n%order == 0) {
					t.Fatalf("%d times %x: %x", n, k, got.Encode())
				}
			}
			rest := new(big.Int).Mod(number(bytesOf(255)), big.NewInt(order))
			if !Mul(bytesOf(255), p).Same(Mul(key(rest), p)) {
				t.Fatalf("all bits times %x", k)
			}
		}
	}
	if len(seen) != 8 {
		t.Errorf("%d points", len(seen))
	}
}

// TestEightTimesTheOrder: any point, eight times and then as often as the order says.
func TestEightTimesTheOrder(t *testing.T) { // P6.1
	outside := 0
	for _, p := range points(t, 12, 100) {
		if !Mul(beyond(0), Mul(small(8), p)).Same(Zero()) || !Mul(small(8), Mul(beyond(0), p)).Same(Zero()) {
			t.Fatalf("%x: not Zero", p.Encode())
		}
		if !Mul(beyond(0), p).Same(Zero()) {
			outside++
		}
	}
	if outside < 50 {
		t.Errorf("only %d points outside of Base's group", outside)
	}
}

func TestNeg(t *testing.T) { // P6.1
	is(t, "of Zero", Zero().Neg(), meant(t, Zero()))
	for _, p := range points(t, 13, 30) {
		w := meant(t, p)
		is(t, "Neg", p.Neg(), w.neg())
		is(t, "twice", p.Neg().Neg(), w)
		is(t, "of a sum", Add(p, Base()).Neg(), w.and(meant(t, Base())).neg())
		is(t, "in a sum", Add(Add(p, Base()), p.Neg()), meant(t, Base()))
		is(t, "times", Mul(small(5), p.Neg()), w.times(big.NewInt(5)).neg())
	}
}

// TestSameReckoned: one point, reckoned in several ways.
func TestSameReckoned(t *testing.T) { // P6.1
	for _, p := range points(t, 14, 20) {
		ways := []Point{
			p, Add(p), Add(p, Zero()), Add(p, Base(), Base().Neg()), Mul(small(1), p), p.Neg().Neg(),
			Add(Mul(small(9), p), Mul(small(8), p).Neg()), Add(p.Neg(), p, p), decoded(t, p.Encode()),
			Mul(key(new(big.Int).Add(new(big.Int).Lsh(order(), 3), big.NewInt(1))), p),
		}
		for i, a := range ways {
			for j, b := range ways {
				if !a.Same(b) || a.Encode() != b.Encode() {
					t.Fatalf("%x: the ways %d and %d tell otherwise", p.Encode(), i, j)
				}
			}
		}
	}
}

func TestSameOthers(t *testing.T) { // P6.1
	list := points(t, 15, 20)
	for _, p := range list {
		for _, q := range list {
			if p.Same(q) != (p.Encode() == q.Encode()) || p.Same(q) != q.Same(p) {
				t.Fatalf("Same of %x and %x", p.Encode(), q.Encode())
			}
		}
		w := meant(t, p)
		alone := w.x.Sign() == 0 // then it is its own opposite
		if p.Same(p.Neg()) != alone || p.Neg().Same(p) != alone || Add(p, p).Same(Zero()) != alone {
			t.Fatalf("%x: Same as its opposite", p.Encode())
		}
		// The point of the order 2 turns x and y round: of that one's opposite x is the same, and y is the opposite.
		turned := Add(p, decoded(t, above(-1)))
		is(t, "turned", turned, pair{modulo(new(big.Int).Neg(w.x)), modulo(new(big.Int).Neg(w.y))})
		if p.Same(turned) || p.Same(turned.Neg()) != (w.y.Sign() == 0) {
			t.Fatalf("%x: Same as %x", p.Encode(), turned.Encode())
		}
	}
}

// says: Decode says of 32 bytes what the chapter does.
func says(t *testing.T, k api.Key) bool {
	t.Helper()
	p, ok := Decode(k)
	w, want := pairOf(k)
	if ok != want {
		t.Fatalf("Decode(%x): %v", k, ok)
	}
	if !ok {
		if p != (Point{}) {
			t.Fatalf("Decode(%x): beside false, %v", k, p)
		}
		return false
	}
	is(t, "Decode", p, w)
	if p.Encode() != k {
		t.Fatalf("Decode(%x), Encoded: %x", k, p.Encode())
	}
	return true
}

func TestDecodeEdges(t *testing.T) { // P6.2
	for n := range int64(60) {
		for _, k := range []api.Key{small(n), above(-n)} {
			alone := n == 1 // x is 0
			if ok, other := says(t, k), says(t, high(k)); ok != other && !alone {
				t.Fatalf("%x: %v, with the highest bit %v", k, ok, other)
			}
		}
	}
	for n := range int64(19) { // up to 2^255 - 1
		if says(t, above(n)) || says(t, high(above(n))) {
			t.Errorf("the prime and %d is taken for a y", n)
		}
	}
	if high(above(18)) != bytesOf(255) {
		t.Error("the prime and 18 isn't 2^255 - 1")
	}
}

func TestDecodeWritten(t *testing.T) { // P6.2
	for _, c := range []struct {
		what string
		k    api.Key
		want bool
	}{
		{"0", api.Key{}, true},
		{"0, odd", high(api.Key{}), true},
		{"1", small(1), true},
		{"1, odd", high(small(1)), false},
		{"p - 1", above(-1), true},
		{"p - 1, odd", high(above(-1)), false},
		{"p", above(0), false},
		{"p, odd", high(above(0)), false},
		{"p + 1", above(1), false},
		{"p + 1, odd", high(above(1)), false},
		{"no x", small(2), false},
		{"no x, odd", high(small(2)), false},
		{"3", small(3), true},
		{"3, odd", high(small(3)), true},
		{"all bits", bytesOf(255), false},
	} {
		if _, ok := Decode(c.k); ok != c.want {
			t.Errorf("Decode of %s: %v", c.what, ok)
		}
	}
}

func TestDecodeSome(t *testing.T) { // P6.2
	var taken, refused int
	for _, k := range some(16, 400) {
		if says(t, k) {
			taken++
		} else {
			refused++
		}
		if _, ok := Decode(high(k)); ok != says(t, k) {
			t.Fatalf("%x: otherwise with the highest bit turned", k)
		}
	}
	if taken < 100 || refused < 100 {
		t.Errorf("%d were taken, %d refused", taken, refused)
	}
}

// TestRound: what is encoded is decoded, and back; the two of one y are each other's opposites.
func TestRound(t *testing.T) { // P6.2
	for _, p := range points(t, 17, 100) {
		k := p.Encode()
		q := decoded(t, k)
		if !q.Same(p) || q.Encode() != k {
			t.Fatalf("%x: decoded, it is %x", k, q.Encode())
		}
		if meant(t, p).x.Sign() == 0 {
			continue
		}
		if o := decoded(t, high(k)); !o.Same(p.Neg()) || !Add(o, p).Same(Zero()) {
			t.Fatalf("%x: with the highest bit turned it isn't the opposite", k)
		}
	}
}

// TestWritten: published multiples of Base.
func TestWritten(t *testing.T) { // P6.1, P6.2
	for i, text := range []string{
		"0100000000000000000000000000000000000000000000000000000000000000",
		"5866666666666666666666666666666666666666666666666666666666666666",
		"c9a3f86aae465f0e56513864510f3997561fa2c9e85ea21dc2292309f3cd6022",
		"d4b4f5784868c3020403246717ec169ff79e26608ea126a1ab69ee77d1b16712",
		"2f1132ca61ab38dff00f2fea3228f24c6c71d58085b80e47e19515cb27e8d047",
		"edc876d6831fd2105d0b4389ca2e283166469289146e2ce06faefe98b22548df",
	} {
		if k := Mul(small(int64(i)), Base()).Encode(); k != unhex(text) {
			t.Errorf("%d times Base: %x, not %s", i, k, text)
		}
	}
}

// byHalf: what a seed of RFC 8032 multiplies Base by.
func byHalf(seed api.Key) api.Key {
	sum := sha512.Sum512(seed[:])
	k := api.Key(sum[:32])
	k[0] &= 248
	k[31] = k[31]&127 | 64
	return k
}

func TestPublished(t *testing.T) { // P6.1, P6.2
	for _, c := range [][2]string{ // RFC 8032, 7.1
		{"9d61b19deffd5a60ba844af492ec2cc44449c5697b326919703bac031cae7f60", "d75a980182b10ab7d54bfed3c964073a0ee172f3daa62325af021a68f707511a"},
		{"4ccd089b28ff96da9db6c346ec114e0f5b8a319f35aba624da8cf6ed4fb8a6fb", "3d4017c3e843895a92b70aa74d1b7ebc9c982ccf2ec4968cc0cd55f12af4660c"},
		{"c5aa8df43f9f837bedb7442f31dcb7b166d38535076f094b85ce3a2e0b4458f7", "fc51cd8e6218a1a38da47ed00230f0580816ed13ba3303ac5deb911548908025"},
		{"f5e5767cf153319517630f226876b86c8160cc583bc013744c6bf255f5cc0ee5", "278117fc144c72340f67d0f2316e8386ceffbf2b2428c9c51fef7c597f1d426e"},
		{"833fe62409237b9d62ec77587520911e9a759cec1d19755b7da901b96dca3d42", "ec172b93ad5e563bf4932c70e1245034c35467ef2efd4d64ebf819683467e2bf"},
	} {
		if k := Mul(byHalf(unhex(c[0])), Base()).Encode(); k != unhex(c[1]) {
			t.Errorf("%s: %x, not %s", c[0], k, c[1])
		}
	}
}

func TestByLibrary(t *testing.T) { // P6.1, P6.2
	for _, seed := range some(18, 100) {
		want := ed25519.NewKeyFromSeed(seed[:]).Public().(ed25519.PublicKey)
		p := Mul(byHalf(seed), Base())
		if k := p.Encode(); k != api.Key(want) {
			t.Fatalf("%x: %x, not %x", seed, k, want)
		}
		if !decoded(t, api.Key(want)).Same(p) {
			t.Fatalf("%x: what the library answers is decoded to another", seed)
		}
	}
}

// TestNotMade: P1: nothing is promised of a Point that wasn't made but that each call ends, without a panic.
func TestNotMade(t *testing.T) {
	var none Point
	broken := Point{x: field.Small(1)}
	for _, p := range []Point{none, broken} {
		for _, q := range []Point{none, broken, Zero(), Base()} {
			Add(p)
			Add(p, q)
			Add(q, p, q)
			Mul(bytesOf(255), p)
			p.Neg().Encode()
			p.Same(q)
			q.Same(p)
		}
	}
}

// TestListStays: R6: Add's list is as it was, its spare room, too.
func TestListStays(t *testing.T) {
	room := points(t, 19, 20)
	before := slices.Clone(room)
	for n := range room {
		list := room[:n]
		sum := Add(list...)
		k := sum.Encode()
		if !slices.Equal(room, before) {
			t.Fatalf("Add of %d points changed them, or what stands behind them", n)
		}
		clear(list)
		if sum.Encode() != k {
			t.Fatalf("the sum of %d points changed with its list", n)
		}
		copy(room, before)
	}
}

// TestArgumentsStay: R6: what is handed in is as it was, and the answer is its own.
func TestArgumentsStay(t *testing.T) {
	for i, k := range numbers(20, 10) {
		list := points(t, 21, 10)
		p, q := list[i%len(list)], list[(i*7+3)%len(list)]
		number, a, b := k, p, q
		product, opposite := Mul(number, a), a.Neg()
		a.Same(b)
		bytes := a.Encode()
		back, _ := Decode(bytes)
		if number != k || a != p || b != q || bytes != p.Encode() {
			t.Fatalf("%x, %x or %x was changed", k, p.Encode(), q.Encode())
		}
		number, a, b, bytes = bytesOf(3), Zero(), Zero(), bytesOf(4)
		if !product.Same(Mul(k, p)) || !opposite.Same(p.Neg()) || !back.Same(p) {
			t.Fatalf("of %x and %x an answer changed behind its call", k, p.Encode())
		}
	}
}

// TestAgain: R8: the same is answered, whatever was asked before.
func TestAgain(t *testing.T) {
	list := points(t, 22, 20)
	for i, k := range some(23, len(list)) {
		p, q := list[i], list[(i*5+2)%len(list)]
		product, sum, opposite := Mul(k, p), Add(p, q, p), p.Neg()
		bytes := sum.Encode()
		Mul(bytesOf(byte(i)), q)
		Add(list...)
		Decode(k)
		q.Encode()
		if Mul(k, p) != product || Add(p, q, p) != sum || p.Neg() != opposite || sum.Encode() != bytes || Zero() != Add() || Base() != decoded(t, baseY) {
			t.Fatalf("of %x and %x one answer is given, and another", k, p.Encode())
		}
	}
}

// TestAtOnce: R8: calls that run at the same time answer what they would by themselves.
func TestAtOnce(t *testing.T) {
	list, keys := points(t, 24, 20), some(25, 30)
	var want [30]api.Key
	for i := range want {
		want[i] = meant(t, list[i]).times(number(keys[i])).and(meant(t, list[i])).bytes()
	}
	var group sync.WaitGroup
	for from := range 8 {
		group.Go(func() {
			for i := range want {
				i = (i + from*5) % len(want)
				if k := Add(Mul(keys[i], list[i]), list[i]).Encode(); k != want[i] {
					t.Errorf("%x, %x at the same time: %x, not %x", keys[i], list[i].Encode(), k, want[i])
					return
				}
			}
		})
	}
	group.Wait()
}

func BenchmarkMul(b *testing.B) {
	p := Base()
	for range b.N {
		p = Mul(bytesOf(170), p)
	}
}

func BenchmarkDecode(b *testing.B) {
	for range b.N {
		Decode(baseY)
	}
}
