package sha2

import (
	"bytes"
	"crypto/sha256"
	"crypto/sha512"
	"encoding/hex"
	"math/big"
	"math/rand"
	"slices"
	"strings"
	"sync"
	"testing"

	"skiff/api"
)

// chance: so many bytes by chance.
func chance(r *rand.Rand, size int) []byte {
	b := make([]byte, size)
	r.Read(b)
	return b
}

// full: so many bytes 255.
func full(size int) []byte { return bytes.Repeat([]byte{255}, size) }

// sums256: Sum256 of the parts is the sum of all their bytes.
func sums256(t *testing.T, parts ...[]byte) {
	t.Helper()
	b := slices.Concat(parts...)
	if got, want := Sum256(parts...), api.Key(sha256.Sum256(b)); got != want {
		t.Fatalf("Sum256 of %d bytes in %d parts: %x, not %x", len(b), len(parts), got, want)
	}
}

// sums512: Sum512 of the parts is the sum of all their bytes.
func sums512(t *testing.T, parts ...[]byte) {
	t.Helper()
	b := slices.Concat(parts...)
	if got, want := Sum512(parts...), sha512.Sum512(b); got != want {
		t.Fatalf("Sum512 of %d bytes in %d parts: %x, not %x", len(b), len(parts), got, want)
	}
}

// cuts: the bytes in parts, cut by chance; some parts are empty, some nil.
func cuts(r *rand.Rand, b []byte, most int) [][]byte {
	var parts [][]byte
	for len(b) > 0 {
		switch r.Intn(6) {
		case 0:
			parts = append(parts, nil)
		case 1:
			parts = append(parts, []byte{})
		}
		n := 1 + r.Intn(min(most, len(b)))
		parts = append(parts, b[:n])
		b = b[n:]
	}
	return parts
}

// written: sums as they are published; each line of a text, how often it stands there, its sum.
type written struct {
	text  string
	times int
	sum   string
}

const (
	of448 = "abcdbcdecdefdefgefghfghighijhijkijkljklmklmnlmnomnopnopq"
	of896 = "abcdefghbcdefghicdefghijdefghijkefghijklfghijklmghijklmnhijklmnoijklmnopjklmnopqklmnopqrlmnopqrsmnopqrstnopqrstu"
)

func TestWritten256(t *testing.T) { // P3.1
	for _, w := range []written{
		{"", 1, "e3b0c44298fc1c149afbf4c8996fb92427ae41e4649b934ca495991b7852b855"},
		{"abc", 1, "ba7816bf8f01cfea414140de5dae2223b00361a396177a9cb410ff61f20015ad"},
		{of448, 1, "248d6a61d20638b8e5c026930c3e6039a33ce45964ff2167f6ecedd419db06c1"},
		{of896, 1, "cf5b16a778af8380036ce59e7b0492370b249b11e8f07a51afac45037afee9d1"},
		{"a", 1000000, "cdc76e5c9914fb9281a1c7e284d73e67f1809a48a497200e046d39ccc7112cd0"},
	} {
		got := Sum256([]byte(strings.Repeat(w.text, w.times)))
		if hex.EncodeToString(got[:]) != w.sum {
			t.Errorf("Sum256 of %d times %q: %x", w.times, w.text, got)
		}
	}
}

func TestWritten512(t *testing.T) { // P3.2
	for _, w := range []written{
		{"", 1, "cf83e1357eefb8bdf1542850d66d8007d620e4050b5715dc83f4a921d36ce9ce47d0d13c5d85f2b0ff8318d2877eec2f63b931bd47417a81a538327af927da3e"},
		{"abc", 1, "ddaf35a193617abacc417349ae20413112e6fa4e89a97ea20a9eeee64b55d39a2192992a274fc1a836ba3c23a3feebbd454d4423643ce80e2a9ac94fa54ca49f"},
		{of896, 1, "8e959b75dae313da8cf4f72814fc143f8f7779c6eb9f7fa17299aeadb6889018501d289e4900f7e4331b99dec4b5433ac7d329eeb6dd26545e96e55b874be909"},
		{"a", 1000000, "e718483d0ce769644e2e42c7bc15b4638e1f98b13b2044285632a803afa973ebde0ff244877ea60a4cb0432ce577c31beb009c5c2c49aa2e4eadb217ad8cc09b"},
	} {
		got := Sum512([]byte(strings.Repeat(w.text, w.times)))
		if hex.EncodeToString(got[:]) != w.sum {
			t.Errorf("Sum512 of %d times %q: %x", w.times, w.text, got)
		}
	}
}

func TestExamples(t *testing.T) { // P3.1, P3.2
	small := Sum256([]byte("abc"))
	if !bytes.HasPrefix(small[:], []byte{0xba, 0x78, 0x16, 0xbf}) {
		t.Errorf("Sum256 of abc: %x", small)
	}
	great := Sum512([]byte("abc"))
	if !bytes.HasPrefix(great[:], []byte{0xdd, 0xaf, 0x35, 0xa1}) {
		t.Errorf("Sum512 of abc: %x", great)
	}
}

// TestSizes: every length from 0 to some blocks, so that each room for the ending is met.
func TestSizes(t *testing.T) { // P3.1, P3.2
	r := rand.New(rand.NewSource(1))
	for n := range 6*128 + 2 {
		for _, b := range [][]byte{chance(r, n), chance(r, n), make([]byte, n), full(n)} {
			sums256(t, b)
			sums512(t, b)
		}
	}
}

func TestOneByte(t *testing.T) { // P3.1, P3.2
	for n := range 256 {
		sums256(t, []byte{byte(n)})
		sums512(t, []byte{byte(n)})
	}
}

// TestOneBit: each single bit of two blocks.
func TestOneBit(t *testing.T) { // P3.1, P3.2
	for bit := range 2 * 128 * 8 {
		b := make([]byte, 2*128)
		b[bit/8] = 1 << (bit % 8)
		sums256(t, b)
		sums512(t, b)
	}
}

func TestLong(t *testing.T) { // P3.1, P3.2
	r := rand.New(rand.NewSource(2))
	for _, n := range []int{1000, 4095, 4096, 65535, 65536, 65537, 1<<20 + 1} {
		for _, b := range [][]byte{chance(r, n), make([]byte, n), full(n)} {
			sums256(t, b)
			sums512(t, b)
			sums256(t, cuts(r, b, 2000)...)
			sums512(t, cuts(r, b, 2000)...)
		}
	}
}

// TestBeyond32Bits: the bits are more than 2^32.
func TestBeyond32Bits(t *testing.T) { // P3.1, P3.2
	piece := chance(rand.New(rand.NewSource(3)), 1<<20)
	parts := slices.Repeat([][]byte{piece}, 512)
	parts = append(parts, piece[:77])
	t.Run("256", func(t *testing.T) {
		t.Parallel()
		want := sha256.New()
		for _, b := range parts {
			want.Write(b)
		}
		if got := Sum256(parts...); !bytes.Equal(got[:], want.Sum(nil)) {
			t.Errorf("Sum256 of more than 2^29 bytes: %x", got)
		}
	})
	t.Run("512", func(t *testing.T) {
		t.Parallel()
		want := sha512.New()
		for _, b := range parts {
			want.Write(b)
		}
		if got := Sum512(parts...); !bytes.Equal(got[:], want.Sum(nil)) {
			t.Errorf("Sum512 of more than 2^29 bytes: %x", got)
		}
	})
}

// TestNoBytes: no parts, and parts without a byte, are the same.
func TestNoBytes(t *testing.T) { // P3.1, P3.2
	for _, parts := range [][][]byte{nil, {}, {nil}, {{}}, {nil, nil}, {nil, {}, nil}, {{}, {}, {}, {}}, make([][]byte, 300)} {
		sums256(t, parts...)
		sums512(t, parts...)
	}
	if Sum256() != Sum256(nil) || Sum256() != Sum256([]byte{}) {
		t.Error("Sum256 of no parts isn't that of an empty one")
	}
	if Sum512() != Sum512(nil) || Sum512() != Sum512([]byte{}) {
		t.Error("Sum512 of no parts isn't that of an empty one")
	}
}

// TestEmptyParts: parts that are nil or empty say nothing, ahead of, between and behind others, wherever in a block they stand.
func TestEmptyParts(t *testing.T) { // P3.1, P3.2
	r := rand.New(rand.NewSource(4))
	for _, n := range []int{1, 2, 55, 56, 57, 63, 64, 65, 111, 112, 113, 127, 128, 129, 200, 256} {
		b := chance(r, n)
		for _, at := range []int{0, 1, n / 2, n - 1, n} {
			for _, empty := range [][]byte{nil, {}, b[at:at]} {
				for _, parts := range [][][]byte{
					{empty, b}, {b, empty}, {empty, empty, b, empty, empty},
					{b[:at], empty, b[at:]}, {empty, b[:at], empty, empty, b[at:], empty},
				} {
					sums256(t, parts...)
					sums512(t, parts...)
				}
			}
		}
	}
}

// TestTwoParts: wherever the bytes are cut in two, the sum is the same.
func TestTwoParts(t *testing.T) { // P3.1, P3.2
	r := rand.New(rand.NewSource(5))
	for _, n := range []int{1, 55, 56, 63, 64, 65, 111, 112, 127, 128, 129, 191, 192, 193, 300} {
		b := chance(r, n)
		small, great := Sum256(b), Sum512(b)
		for at := range n + 1 {
			if Sum256(b[:at], b[at:]) != small {
				t.Fatalf("Sum256 of %d bytes is another, cut at %d", n, at)
			}
			if Sum512(b[:at], b[at:]) != great {
				t.Fatalf("Sum512 of %d bytes is another, cut at %d", n, at)
			}
		}
	}
}

// TestManyParts: however the bytes are cut, the sum is the same.
func TestManyParts(t *testing.T) { // P3.1, P3.2
	r := rand.New(rand.NewSource(6))
	for n := range 600 {
		b := chance(r, n)
		small, great := Sum256(b), Sum512(b)
		for _, most := range []int{1, 3, 64, 100, 300} {
			parts := cuts(r, b, most)
			if Sum256(parts...) != small {
				t.Fatalf("Sum256 of %d bytes is another in %d parts", n, len(parts))
			}
			if Sum512(parts...) != great {
				t.Fatalf("Sum512 of %d bytes is another in %d parts", n, len(parts))
			}
		}
	}
}

// TestOrder: the parts count in their order; each of several that share memory counts.
func TestOrder(t *testing.T) { // P3.1, P3.2
	b := []byte("0123456789")
	for _, parts := range [][][]byte{{b, b}, {b[5:], b[:5]}, {b[:7], b[3:]}, {b, b[:0], b, b[9:]}, slices.Repeat([][]byte{b}, 100)} {
		sums256(t, parts...)
		sums512(t, parts...)
	}
	if Sum256(b[:5], b[5:]) == Sum256(b[5:], b[:5]) || Sum512(b[:5], b[5:]) == Sum512(b[5:], b[:5]) {
		t.Error("the order of the parts says nothing")
	}
}

// TestArgumentsStay: R6: the parts, their spare room and their list are as they were.
func TestArgumentsStay(t *testing.T) {
	const spare = 300
	for n := range 300 {
		room := append(bytes.Repeat([]byte{7}, n), bytes.Repeat([]byte{9}, spare)...)
		before := slices.Clone(room)
		list := [][]byte{room[:n/3], room[n/3 : n], nil, room[n:n], {1, 2, 3}}
		parts := list[:4]
		Sum256(parts...)
		Sum512(parts...)
		if !bytes.Equal(room, before) {
			t.Fatalf("of %d bytes some are changed", n)
		}
		if len(list[0]) != n/3 || len(list[1]) != n-n/3 || list[2] != nil || len(list[3]) != 0 || !bytes.Equal(list[4], []byte{1, 2, 3}) {
			t.Fatalf("the list of %d bytes is changed", n)
		}
	}
}

// TestArgumentsNotKept: R6: what is answered doesn't change with what was handed in, nor with another answer.
func TestArgumentsNotKept(t *testing.T) {
	b := full(200)
	small, great := Sum256(b), Sum512(b)
	first, second := Sum256(b), Sum512(b)
	clear(b)
	first[0]++
	second[0]++
	if small != sha256.Sum256(full(200)) || great != sha512.Sum512(full(200)) {
		t.Error("a sum changed behind its call")
	}
	sums256(t, b)
	sums512(t, b)
}

// TestSame: R8: the same is answered, whatever was asked before.
func TestSame(t *testing.T) {
	r := rand.New(rand.NewSource(7))
	for n := range 300 {
		b, other := chance(r, n), chance(r, r.Intn(400))
		small, great := Sum256(b), Sum512(b)
		Sum256(other)
		Sum512(other, other)
		if Sum256(b) != small || Sum512(b) != great {
			t.Fatalf("of %d bytes one sum is answered, and another", n)
		}
	}
}

// TestAtOnce: R8: calls that run at the same time answer what they would by themselves.
func TestAtOnce(t *testing.T) {
	b := chance(rand.New(rand.NewSource(8)), 5000)
	var group sync.WaitGroup
	for i := range 8 {
		group.Go(func() {
			for n := range 300 {
				part := b[i*100 : i*100+n]
				if Sum256(part, part) != sha256.Sum256(append(slices.Clone(part), part...)) || Sum512(part) != sha512.Sum512(part) {
					t.Errorf("the sums of %d bytes are others at the same time", n)
					return
				}
			}
		})
	}
	group.Wait()
}

// primes: the first so many.
func primes(n int) []int64 {
	var list []int64
	for p := int64(2); len(list) < n; p++ {
		if !slices.ContainsFunc(list, func(q int64) bool { return p%q == 0 }) {
			list = append(list, p)
		}
	}
	return list
}

// isRoot: are these the first 64 bits behind the point of the prime's root of that degree? The number whose bits they are is, to the power of the degree, at most the prime (moved as far), and the next one is above it.
func isRoot(prime int64, degree int, behind uint64) bool {
	whole := int64(1)
	for power(big.NewInt(whole+1), degree).Cmp(big.NewInt(prime)) <= 0 {
		whole++
	}
	root := new(big.Int).Lsh(big.NewInt(whole), 64)
	root.Or(root, new(big.Int).SetUint64(behind))
	moved := new(big.Int).Lsh(big.NewInt(prime), uint(64*degree))
	next := new(big.Int).Add(root, big.NewInt(1))
	return power(root, degree).Cmp(moved) <= 0 && power(next, degree).Cmp(moved) > 0
}

func power(n *big.Int, degree int) *big.Int {
	return new(big.Int).Exp(n, big.NewInt(int64(degree)), nil)
}

func TestRoots(t *testing.T) { // P3.1, P3.2
	for i, p := range primes(len(squareRoots)) {
		if !isRoot(p, 2, squareRoots[i]) {
			t.Errorf("the square root of %d: %x", p, squareRoots[i])
		}
	}
	for i, p := range primes(len(cubeRoots)) {
		if !isRoot(p, 3, cubeRoots[i]) {
			t.Errorf("the third root of %d: %x", p, cubeRoots[i])
		}
	}
}

func BenchmarkSum256(b *testing.B) { measure(b, func(piece []byte) { Sum256(piece) }) }

func BenchmarkSum512(b *testing.B) { measure(b, func(piece []byte) { Sum512(piece) }) }

func measure(b *testing.B, sum func(piece []byte)) {
	piece := full(4096)
	b.SetBytes(int64(len(piece)))
	for range b.N {
		sum(piece)
	}
}
