package field

import (
	"math/big"
	"math/rand"
	"slices"
	"testing"

	"skiff/api"
)

// prime is 2^255 - 19.
func prime() *big.Int {
	p := new(big.Int).Lsh(big.NewInt(1), 255)
	return p.Sub(p, big.NewInt(19))
}

// key: a number below 2^256 as 32 bytes, the lowest first.
func key(n *big.Int) api.Key {
	var k api.Key
	n.FillBytes(k[:])
	slices.Reverse(k[:])
	return k
}

// number: the number of all 256 bits of 32 bytes.
func number(k api.Key) *big.Int {
	b := slices.Clone(k[:])
	slices.Reverse(b)
	return new(big.Int).SetBytes(b)
}

// meant: the number that Of promises of 32 bytes.
func meant(k api.Key) *big.Int {
	k[31] &= 127
	n := number(k)
	return n.Mod(n, prime())
}

// wants: an Element is that number, modulo the prime; is it, told by each call that looks at it?
func wants(t *testing.T, what string, got Element, n *big.Int) {
	t.Helper()
	k := key(new(big.Int).Mod(n, prime()))
	if b := got.Bytes(); b != k {
		t.Fatalf("%s: %x, not %x", what, b, k)
	}
	if got.Zero() != (k == api.Key{}) || got.Odd() != (k[0]&1 == 1) || !got.Same(Of(k)) || !Of(k).Same(got) {
		t.Fatalf("%s: %x: Zero %v, Odd %v", what, k, got.Zero(), got.Odd())
	}
}

// edges: numbers around 0, around the prime, around the borders of bytes, words and parts; with the highest bit, too.
func edges() []api.Key {
	var list []*big.Int
	for _, n := range []int64{0, 1, 2, 3, 18, 19, 20, 37, 38, 255, 256} {
		list = append(list, big.NewInt(n), new(big.Int).Sub(prime(), big.NewInt(n)))
	}
	for i := range 19 {
		list = append(list, new(big.Int).Add(prime(), big.NewInt(int64(i))))
	}
	for _, bit := range []uint{26, 32, 50, 51, 52, 63, 64, 102, 127, 128, 153, 192, 204, 253, 254} {
		n := new(big.Int).Lsh(big.NewInt(1), bit)
		list = append(list, n, new(big.Int).Sub(n, big.NewInt(1)), new(big.Int).Add(n, big.NewInt(1)), new(big.Int).Sub(prime(), n))
	}
	var keys []api.Key
	for _, n := range list {
		keys = append(keys, key(n))
	}
	for _, k := range slices.Clone(keys[:8]) {
		k[31] |= 128
		keys = append(keys, k)
	}
	return append(keys, ones(255, 255), ones(236, 255), ones(237, 255), ones(238, 255), ones(255, 127))
}

// some: so many numbers by chance, always the same ones; many of their bytes are 0 or 255.
func some(seed int64, n int) []api.Key {
	r := rand.New(rand.NewSource(seed))
	keys := make([]api.Key, n)
	for i := range keys {
		r.Read(keys[i][:])
		for range r.Intn(40) {
			keys[i][r.Intn(32)] = byte(-r.Intn(2))
		}
	}
	return keys
}

func all(seed int64, n int) []api.Key { return append(edges(), some(seed, n)...) }

func TestOfAndBytes(t *testing.T) { // P1.1
	for _, k := range all(1, 2000) {
		wants(t, "Of", Of(k), meant(k))
		high := k
		high[31] ^= 128
		if !Of(high).Same(Of(k)) {
			t.Fatalf("Of(%x): the highest bit says something", k)
		}
	}
}

func TestPrimeAndAbove(t *testing.T) { // P1.1
	for i := range 19 {
		n := new(big.Int).Add(prime(), big.NewInt(int64(i)))
		wants(t, "Of", Of(key(n)), big.NewInt(int64(i)))
		if Of(key(n)).Bytes() != (api.Key{byte(i)}) {
			t.Errorf("Of the prime and %d isn't %d", i, i)
		}
	}
	if !Of(key(prime())).Zero() || Of(key(prime())).Odd() {
		t.Error("the prime isn't 0")
	}
}

func TestSmall(t *testing.T) { // P1.1
	for _, n := range []uint32{0, 1, 2, 9, 19, 255, 256, 65535, 65536, 1<<31 - 1, 1 << 31, 1<<32 - 1} {
		wants(t, "Small", Small(n), big.NewInt(int64(n)))
	}
}

func TestNotMade(t *testing.T) { // P1.1
	var e Element
	wants(t, "not made", e, new(big.Int))
	if !e.Zero() || e.Odd() || !e.Same(Small(0)) || e.Same(Small(1)) {
		t.Error("an Element that wasn't made isn't 0")
	}
	seven := Small(7)
	wants(t, "Add", e.Add(seven), big.NewInt(7))
	wants(t, "Sub", seven.Sub(e), big.NewInt(7))
	wants(t, "Sub", e.Sub(seven), big.NewInt(-7))
	wants(t, "Neg", e.Neg(), new(big.Int))
	wants(t, "Mul", seven.Mul(e), new(big.Int))
	wants(t, "Invert", e.Invert(), new(big.Int))
	wants(t, "Power", e.Power(api.Key{1}), new(big.Int))
	wants(t, "Power", e.Power(api.Key{}), big.NewInt(1))
	if r, ok := Root(e, e); !ok || !r.Zero() {
		t.Error("the root of 0 over 0")
	}
}

func TestArithmetic(t *testing.T) { // P1.1
	keys := all(2, 120)
	for _, j := range keys {
		a, m := Of(j), meant(j)
		wants(t, "Neg", a.Neg(), new(big.Int).Neg(m))
		for _, k := range keys {
			b, n := Of(k), meant(k)
			wants(t, "Add", a.Add(b), new(big.Int).Add(m, n))
			wants(t, "Sub", a.Sub(b), new(big.Int).Sub(m, n))
			wants(t, "Mul", a.Mul(b), new(big.Int).Mul(m, n))
			if a.Same(b) != (m.Cmp(n) == 0) {
				t.Fatalf("Same of %x, %x", j, k)
			}
		}
	}
}

// TestChains: what is answered is as good as what is made by Of, however often.
func TestChains(t *testing.T) { // P1.1
	a, m := Of(ones(236, 127)), new(big.Int).Sub(prime(), big.NewInt(1))
	for i, k := range some(3, 3000) {
		b, n := Of(k), meant(k)
		switch i % 5 {
		case 0:
			a, m = a.Add(a), m.Add(m, m)
		case 1:
			a, m = b.Sub(a), m.Sub(n, m)
		case 2:
			a, m = a.Mul(a), m.Mul(m, m)
		case 3:
			a, m = a.Neg(), m.Neg(m)
		default:
			a, m = a.Mul(b), m.Mul(m, n)
		}
		m.Mod(m, prime())
		wants(t, "chain", a, m)
	}
}

func TestPower(t *testing.T) { // P1.1
	powers := append([]api.Key{{}, {1}, {2}, {3}, {255}, {0, 1}, {31: 128}, {31: 64}, {30: 1}, ones(255, 255)}, some(4, 20)...)
	for _, n := range []int64{0, 1, 2} { // p - 1 gives 1, p the number, p - 2 its inverse
		powers = append(powers, key(new(big.Int).Sub(prime(), big.NewInt(n))))
	}
	for _, k := range append([]api.Key{{}, {1}, {2}, key(prime()), ones(236, 127), ones(255, 255)}, some(5, 20)...) {
		for _, e := range powers {
			wants(t, "Power", Of(k).Power(e), new(big.Int).Exp(meant(k), number(e), prime()))
		}
	}
}

func TestPowerOfNought(t *testing.T) { // P1.1
	for _, k := range all(6, 10) {
		if !Of(k).Power(api.Key{}).Same(Small(1)) {
			t.Fatalf("%x to the power 0 isn't 1", k)
		}
	}
	for _, e := range []api.Key{{1}, {31: 128}, ones(255, 255), key(prime())} {
		if !Small(0).Power(e).Zero() {
			t.Fatalf("0 to the power %x isn't 0", e)
		}
	}
}

func TestInvert(t *testing.T) { // P1.1
	for _, k := range all(7, 200) {
		want := new(big.Int).ModInverse(meant(k), prime())
		if want == nil {
			want = new(big.Int)
		}
		wants(t, "Invert", Of(k).Invert(), want)
	}
	if !Of(key(prime())).Invert().Zero() {
		t.Error("the inverse of 0 isn't 0")
	}
}

func TestExamples(t *testing.T) { // P1.1
	wants(t, "Of 32 bytes 255", Of(ones(255, 255)), big.NewInt(18))
	wants(t, "1 over 2, times 2", Small(2).Invert().Mul(Small(2)), big.NewInt(1))
}

// hasRoot: by the rule of quadratic residues.
func hasRoot(x, y *big.Int) bool {
	if x.Sign() == 0 {
		return true
	}
	if y.Sign() == 0 {
		return false
	}
	n := new(big.Int).Mul(x, new(big.Int).ModInverse(y, prime()))
	return big.Jacobi(n.Mod(n, prime()), prime()) == 1
}

// checkRoot: does Root say rightly whether there is one, and is that one?
func checkRoot(t *testing.T, x, y Element) {
	t.Helper()
	r, ok := Root(x, y)
	if ok != hasRoot(number(x.Bytes()), number(y.Bytes())) {
		t.Fatalf("Root(%x, %x): %v", x.Bytes(), y.Bytes(), ok)
	}
	if !ok || x.Zero() {
		wants(t, "Root", r, new(big.Int))
		return
	}
	if !r.Mul(r).Mul(y).Same(x) {
		t.Fatalf("Root(%x, %x): %x", x.Bytes(), y.Bytes(), r.Bytes())
	}
	wants(t, "Root", r, number(r.Bytes()))
}

func TestRoot(t *testing.T) { // P1.2
	keys := all(8, 20)
	for i, k := range keys {
		checkRoot(t, Of(k), Small(1))
		checkRoot(t, Small(1), Of(k))
		checkRoot(t, Of(k), Of(keys[(i*7+3)%len(keys)]))
	}
	for _, k := range some(9, 100) {
		// A square, its opposite, twice the square, and the opposite of that: two of them have a root.
		square := Of(k).Mul(Of(k))
		y := Of(keys[int(k[0])%len(keys)])
		for _, x := range []Element{square, square.Neg(), square.Add(square), square.Add(square).Neg()} {
			checkRoot(t, x, Small(1))
			checkRoot(t, x.Mul(y), y)
			checkRoot(t, x, y)
		}
	}
}

func TestRootEdges(t *testing.T) { // P1.2
	nought := Of(key(prime()))
	for _, k := range all(10, 10) {
		if r, ok := Root(nought, Of(k)); !ok || !r.Zero() {
			t.Errorf("Root(0, %x): %x, %v", k, r.Bytes(), ok)
		}
		x := Of(k)
		if r, ok := Root(x, nought); ok != x.Zero() || !r.Zero() {
			t.Errorf("Root(%x, 0): %x, %v", k, r.Bytes(), ok)
		}
	}
	if r, ok := Root(Small(2), Small(1)); ok || !r.Zero() {
		t.Error("2 has a root")
	}
	if r, ok := Root(Small(1).Neg(), Small(1)); !ok || !r.Mul(r).Same(Small(1).Neg()) {
		t.Error("-1 has no root")
	}
}

func TestSwap(t *testing.T) { // P1.2
	for _, swap := range []uint64{0, 1, 2, 3, 4, 5, 254, 255, 1 << 32, 1<<32 + 1, 1 << 63, 1<<63 + 1, 1<<64 - 2, 1<<64 - 1} {
		for i, k := range all(11, 20) {
			a, b := Of(k), Small(uint32(i)).Neg()
			x, y := Swap(swap, a, b)
			if swap%2 == 1 {
				x, y = y, x
			}
			wants(t, "Swap", x, meant(k))
			wants(t, "Swap", y, big.NewInt(-int64(i)))
		}
	}
	if x, y := Swap(1, Element{}, Small(5)); !x.Same(Small(5)) || !y.Zero() {
		t.Error("Swap of an Element that wasn't made")
	}
}

// TestArgumentsStay: R6: what is handed in is as it was.
func TestArgumentsStay(t *testing.T) {
	k, e := ones(200, 50), ones(3, 4)
	a, b := Of(k), Of(e)
	a.Add(b)
	a.Sub(b)
	a.Neg()
	a.Mul(b)
	a.Power(e)
	a.Invert()
	Root(a, b)
	Swap(1, a, b)
	wants(t, "a", a, meant(ones(200, 50)))
	wants(t, "b", b, meant(ones(3, 4)))
	if k != ones(200, 50) || e != ones(3, 4) {
		t.Error("bytes were changed")
	}
}
