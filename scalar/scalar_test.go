package scalar

import (
	"bytes"
	"math/big"
	"math/rand"
	"slices"
	"testing"

	"skiff/api"
)

// order is 2^252 + 27742317777372353535851937790883648493.
func order() *big.Int {
	n, _ := new(big.Int).SetString("27742317777372353535851937790883648493", 10)
	return n.Add(n, power(252))
}

func power(bit uint) *big.Int { return new(big.Int).Lsh(big.NewInt(1), bit) }

// numberOf: the number of bytes, the lowest first.
func numberOf(b []byte) *big.Int {
	b = slices.Clone(b)
	slices.Reverse(b)
	return new(big.Int).SetBytes(b)
}

// lowest: so many bytes of a number, the lowest first.
func lowest(n *big.Int, size int) []byte {
	b := n.FillBytes(make([]byte, size))
	slices.Reverse(b)
	return b
}

// key: a number below 2^256 as 32 bytes.
func key(n *big.Int) api.Key { return api.Key(lowest(n, 32)) }

// modulo: a number modulo the order, as 32 bytes.
func modulo(n *big.Int) api.Key { return key(new(big.Int).Mod(n, order())) }

// times: so many times the order, and a little.
func times(n *big.Int, and int64) *big.Int {
	n = new(big.Int).Mul(n, order())
	return n.Add(n, big.NewInt(and))
}

// full: so many bytes 255.
func full(size int) []byte { return bytes.Repeat([]byte{255}, size) }

// reduces: Reduce answers what the promise says; what it is handed stays as it was, spare room included.
func reduces(t *testing.T, b []byte) {
	t.Helper()
	room := append(append(make([]byte, 0, len(b)+9), b...), full(9)...)
	if got, want := Reduce(room[:len(b)]), modulo(numberOf(b)); got != want {
		t.Fatalf("Reduce(%x): %x, not %x", b, got, want)
	}
	if !bytes.Equal(room[:len(b)], b) || !bytes.Equal(room[len(b):], full(9)) {
		t.Fatalf("Reduce(%x) changed it", b)
	}
}

// adds: MulAdd answers what the promise says.
func adds(t *testing.T, a, b, c api.Key) {
	t.Helper()
	n := new(big.Int).Mul(numberOf(a[:]), numberOf(b[:]))
	n.Add(n, numberOf(c[:]))
	if got, want := MulAdd(a, b, c), modulo(n); got != want {
		t.Fatalf("MulAdd(%x, %x, %x): %x, not %x", a, b, c, got, want)
	}
}

// checks: Check answers what the promise says.
func checks(t *testing.T, k api.Key) {
	t.Helper()
	if got, want := Check(k), numberOf(k[:]).Cmp(order()) < 0; got != want {
		t.Fatalf("Check(%x): %v", k, got)
	}
}

// edges: numbers around 0, around the order and its multiples, around powers of 2, below 2^256.
func edges() []api.Key {
	var list []*big.Int
	around := func(n *big.Int) {
		for _, d := range []int64{-2, -1, 0, 1, 2} {
			m := new(big.Int).Add(n, big.NewInt(d))
			if m.Sign() >= 0 && m.BitLen() <= 256 {
				list = append(list, m)
			}
		}
	}
	for n := range int64(16) {
		around(times(big.NewInt(n), 0))
	}
	for _, bit := range []uint{8, 31, 32, 63, 64, 124, 125, 128, 192, 220, 224, 251, 252, 253, 254, 255, 256} {
		around(power(bit))
	}
	// The order with one of its words a little off: what is told by a part of the number alone is told wrongly.
	for _, bit := range []uint{0, 63, 64, 124, 127, 128, 191, 192, 251, 252} {
		list = append(list, new(big.Int).Xor(order(), power(bit)))
	}
	var keys []api.Key
	for _, n := range list {
		keys = append(keys, key(n))
	}
	return keys
}

// some: so many keys by chance, always the same ones; many of their bytes are 0 or 255.
func some(seed int64, n int) []api.Key {
	r := rand.New(rand.NewSource(seed))
	keys := make([]api.Key, n)
	for i := range keys {
		copy(keys[i][:], chance(r, 32))
	}
	return keys
}

func chance(r *rand.Rand, size int) []byte {
	b := make([]byte, size)
	r.Read(b)
	for range r.Intn(size + 9) {
		if size > 0 {
			b[r.Intn(size)] = byte(-r.Intn(2))
		}
	}
	return b
}

func TestReduceKeys(t *testing.T) { // P2.1
	for _, k := range append(edges(), some(1, 3000)...) {
		reduces(t, k[:])
	}
}

func TestReduceNothing(t *testing.T) { // P2.1
	if Reduce(nil) != (api.Key{}) || Reduce([]byte{}) != (api.Key{}) {
		t.Error("the number of no bytes isn't 0")
	}
}

func TestReduceOneByte(t *testing.T) { // P2.1
	for n := range 256 {
		if Reduce([]byte{byte(n)}) != (api.Key{byte(n)}) {
			t.Errorf("Reduce of a byte %d isn't %d", n, n)
		}
	}
}

func TestReduceSizes(t *testing.T) { // P2.1
	r := rand.New(rand.NewSource(2))
	sizes := []int{255, 256, 257, 1000, 4096, 65536, 100003}
	for n := range 140 {
		sizes = append(sizes, n)
	}
	for _, n := range sizes {
		reduces(t, full(n))
		reduces(t, make([]byte, n))
		for range 5 {
			reduces(t, chance(r, n))
		}
		if n > 0 {
			one := make([]byte, n)
			one[n-1] = 1
			reduces(t, one)
		}
	}
}

func TestReduceLong(t *testing.T) { // P2.1
	b := make([]byte, 1<<22+1)
	b[len(b)-1] = 9
	want := new(big.Int).Exp(big.NewInt(2), big.NewInt(8<<22), order())
	if Reduce(b) != modulo(want.Mul(want, big.NewInt(9))) {
		t.Error("Reduce of 4 MiB and a byte")
	}
}

// TestReduceMultiples: just below, at and just above what the order goes into.
func TestReduceMultiples(t *testing.T) { // P2.1
	list := []*big.Int{big.NewInt(0), order()}
	for _, bit := range []uint{1, 3, 4, 31, 32, 33, 64, 100, 252, 253, 258, 259} {
		list = append(list, power(bit), new(big.Int).Sub(power(bit), big.NewInt(1)))
	}
	for _, n := range list {
		for and := int64(-3); and <= 3; and++ {
			m := times(n, and)
			if m.Sign() < 0 {
				continue
			}
			want := modulo(big.NewInt(and))
			if got := Reduce(lowest(m, 80)); got != want {
				t.Fatalf("Reduce of %d times the order and %d: %x", n, and, got)
			}
			reduces(t, lowest(m, (m.BitLen()+7)/8))
		}
	}
}

// TestReduceNoughts: noughts behind (the highest bytes) say nothing.
func TestReduceNoughts(t *testing.T) { // P2.1
	for _, k := range append(edges(), some(3, 50)...) {
		want := Reduce(k[:])
		for n := range 70 {
			if Reduce(append(k[:], make([]byte, n)...)) != want {
				t.Fatalf("Reduce(%x): %d noughts behind say something", k, n)
			}
		}
	}
}

// TestReduceAgain: what is below the order stays as it is.
func TestReduceAgain(t *testing.T) { // P2.1
	for _, k := range some(4, 500) {
		n := Reduce(append(k[:], k[:]...))
		if Reduce(n[:]) != n || !Check(n) {
			t.Fatalf("Reduce(%x): not below the order", n)
		}
	}
}

func TestMulAddEdges(t *testing.T) { // P2.1
	keys := edges()
	for i, a := range keys {
		for j, b := range keys {
			adds(t, a, b, keys[(i*5+j*3)%len(keys)])
		}
	}
}

func TestMulAddSome(t *testing.T) { // P2.1
	keys := some(5, 5000)
	for i := range keys {
		adds(t, keys[i], keys[(i+1)%len(keys)], keys[(i+2)%len(keys)])
	}
}

func TestMulAddFull(t *testing.T) { // P2.1
	most, none, one := api.Key(full(32)), api.Key{}, api.Key{1}
	for _, a := range []api.Key{most, none, one} {
		for _, b := range []api.Key{most, none, one} {
			for _, c := range []api.Key{most, none, one} {
				adds(t, a, b, c)
			}
		}
	}
}

// TestMulAddMultiples: a sum just below, at and just above what the order goes into.
func TestMulAddMultiples(t *testing.T) { // P2.1
	for i, a := range some(6, 200) {
		b := some(int64(100+i), 1)[0]
		if i%4 == 0 {
			b = api.Key{byte(i)}
		}
		n := new(big.Int).Mul(numberOf(a[:]), numberOf(b[:]))
		missing := new(big.Int).Sub(order(), n.Mod(n, order()))
		for and := int64(-2); and <= 2; and++ {
			c := new(big.Int).Add(missing, big.NewInt(and))
			if c.Sign() < 0 {
				continue
			}
			if got := MulAdd(a, b, key(c)); got != modulo(big.NewInt(and)) {
				t.Fatalf("MulAdd(%x, %x, %x): %x, not %d", a, b, key(c), got, and)
			}
		}
	}
}

// TestMulAddOrder: what is the order, or many of it, counts as 0.
func TestMulAddOrder(t *testing.T) { // P2.1
	for n := range int64(16) {
		zero := key(times(big.NewInt(n), 0))
		for _, k := range append(edges(), some(7, 20)...) {
			if MulAdd(zero, k, zero) != (api.Key{}) || MulAdd(k, zero, k) != Reduce(k[:]) || MulAdd(api.Key{1}, zero, k) != Reduce(k[:]) {
				t.Fatalf("%d times the order isn't 0 beside %x", n, k)
			}
		}
	}
}

func TestCheckEdges(t *testing.T) { // P2.1
	for _, k := range append(edges(), some(8, 3000)...) {
		checks(t, k)
	}
	for _, n := range []int64{-3, -2, -1, 0, 1, 2, 3} {
		if Check(key(times(big.NewInt(1), n))) != (n < 0) {
			t.Errorf("Check of the order and %d", n)
		}
	}
	if !Check(api.Key{}) || !Check(api.Key{1}) || Check(api.Key(full(32))) {
		t.Error("Check of 0, of 1 or of the greatest")
	}
}

// TestCheckOneByte: the order with one of its bytes less is below it, with one more isn't.
func TestCheckOneByte(t *testing.T) { // P2.1
	l := key(order())
	for i := range l {
		less, more := l, l
		less[i]--
		more[i]++
		checks(t, less)
		checks(t, more)
	}
}

func TestExamples(t *testing.T) { // P2.1
	if got := MulAdd(api.Key{2}, api.Key{3}, api.Key{4}); got != (api.Key{10}) {
		t.Errorf("MulAdd(2, 3, 4): %x", got)
	}
	l := key(order())
	if got := Reduce(l[:]); got != (api.Key{}) {
		t.Errorf("Reduce of the order: %x", got)
	}
}

// TestOrderIsRight: its bytes, as they are known.
func TestOrderIsRight(t *testing.T) { // P2.1
	l := api.Key{0xed, 0xd3, 0xf5, 0x5c, 0x1a, 0x63, 0x12, 0x58, 0xd6, 0x9c, 0xf7, 0xa2, 0xde, 0xf9, 0xde, 0x14, 31: 0x10}
	if key(order()) != l || Check(l) || Reduce(l[:]) != (api.Key{}) {
		t.Error("the order is another")
	}
	l[0]--
	if !Check(l) || Reduce(l[:]) != l {
		t.Error("the order less 1 isn't below it")
	}
}

// TestArgumentsStay: R6: what is handed in is as it was, and the answer is its own.
func TestArgumentsStay(t *testing.T) {
	most := api.Key(full(32))
	a, b, c := most, most, most
	MulAdd(a, b, c)
	Check(a)
	if a != most || b != most || c != most {
		t.Error("MulAdd or Check changed what it was handed")
	}
	k := api.Key{5}
	n := Reduce(k[:])
	k[0] = 6
	if n != (api.Key{5}) {
		t.Error("Reduce keeps what it was handed")
	}
}

// TestSame: R8: the same is answered, whatever was asked before.
func TestSame(t *testing.T) {
	keys := some(9, 20)
	var first []api.Key
	for round := range 2 {
		for i, k := range keys {
			got := MulAdd(k, Reduce(k[:]), k)
			if round == 0 {
				first = append(first, got)
			} else if got != first[i] {
				t.Fatalf("MulAdd of %x answers one and another", k)
			}
		}
	}
}

func BenchmarkMulAdd(b *testing.B) {
	k := api.Key(full(32))
	for range b.N {
		k = MulAdd(k, k, k)
	}
}
