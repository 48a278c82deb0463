package mac

import (
	"bytes"
	"crypto/hkdf"
	"crypto/hmac"
	"crypto/sha256"
	"encoding/hex"
	"math"
	"math/rand"
	"slices"
	"strings"
	"sync"
	"testing"

	"skiff/api"
)

// chance: so many bytes by chance.
func chance(r *rand.Rand, size int) []byte {
	b := make([]byte, size)
	r.Read(b)
	return b
}

// secretBy: a secret by chance.
func secretBy(r *rand.Rand) api.Key { return api.Key(chance(r, 32)) }

// unhex: the bytes that a text of base sixteen tells.
func unhex(text string) []byte {
	b, err := hex.DecodeString(text)
	if err != nil {
		panic(err)
	}
	return b
}

// run: the bytes from one on, up to another one and with it.
func run(from, to int) []byte {
	var b []byte
	for n := from; n <= to; n++ {
		b = append(b, byte(n))
	}
	return b
}

// cuts: the bytes in parts, cut by chance; some parts are empty, some nil.
func cuts(r *rand.Rand, b []byte, most int) [][]byte {
	var parts [][]byte
	for len(b) > 0 {
		switch r.Intn(6) {
		case 0:
			parts = append(parts, nil)
		case 1:
			parts = append(parts, []byte{})
		}
		n := 1 + r.Intn(min(most, len(b)))
		parts = append(parts, b[:n])
		b = b[n:]
	}
	return parts
}

// wantSum: the library's sum with a key.
func wantSum(key, b []byte) api.Key {
	h := hmac.New(sha256.New, key)
	h.Write(b)
	return api.Key(h.Sum(nil))
}

// sums: Sum of the parts is that of all their bytes.
func sums(t *testing.T, key []byte, parts ...[]byte) {
	t.Helper()
	b := slices.Concat(parts...)
	if got, want := Sum(key, parts...), wantSum(key, b); got != want {
		t.Fatalf("Sum with a key of %d bytes of %d bytes in %d parts: %x, not %x", len(key), len(b), len(parts), got, want)
	}
}

// right: bytes without spare room, as many as are wanted, and those.
func right(t *testing.T, got []byte, e api.Errno, want []byte) {
	t.Helper()
	if e != api.OK {
		t.Fatalf("for %d bytes: error %d", len(want), e)
	}
	if !bytes.Equal(got, want) {
		t.Fatalf("%x, not %x", got, want)
	}
	if cap(got) != len(want) {
		t.Fatalf("%d bytes have room for %d", len(got), cap(got))
	}
}

// refused: the error, and nothing beside it.
func refused(t *testing.T, got []byte, e, want api.Errno) {
	t.Helper()
	if e != want || len(got) != 0 {
		t.Fatalf("error %d and %d bytes, not error %d", e, len(got), want)
	}
}

// wantExpand: the library's bytes out of a secret.
func wantExpand(t *testing.T, secret api.Key, info []byte, n int) []byte {
	t.Helper()
	b, err := hkdf.Expand(sha256.New, secret[:], string(info), n)
	if err != nil {
		t.Fatal(err)
	}
	return b
}

// expands: Expand answers what the promise says.
func expands(t *testing.T, secret api.Key, info []byte, n int) {
	t.Helper()
	got, e := Expand(secret, info, n)
	right(t, got, e, wantExpand(t, secret, info, n))
}

// wantLabel: the library's bytes out of a secret, for a label and a context.
func wantLabel(t *testing.T, secret api.Key, label string, context []byte, n int) []byte {
	t.Helper()
	info := []byte{byte(n / 256), byte(n % 256), byte(len(label) + 6)}
	info = append(info, "\x74\x6c\x73\x31\x33\x20"+label...)
	info = append(info, byte(len(context)))
	return wantExpand(t, secret, append(info, context...), n)
}

// labels: Label answers what the promise says, and Key its 32 bytes.
func labels(t *testing.T, secret api.Key, label string, context []byte, n int) {
	t.Helper()
	got, e := Label(secret, label, context, n)
	right(t, got, e, wantLabel(t, secret, label, context, n))
	if got, want := Key(secret, label, context), api.Key(wantLabel(t, secret, label, context, 32)); got != want {
		t.Fatalf("Key for a label of %d bytes and a context of %d: %x, not %x", len(label), len(context), got, want)
	}
}

// sizes: how many bytes may be asked for, at the edges.
var sizes = []int{0, 1, 2, 31, 32, 33, 63, 64, 65, 95, 96, 97, 255, 256, 257, 8127, 8128, 8129, 8159, 8160}

// wrongSizes: how many may not.
var wrongSizes = []int{-1, -2, -32, -65536, math.MinInt, 8161, 8162, 8192, 65535, 65536, 65536 + 32, 1 << 32, 1<<32 + 32, math.MaxInt}

func TestSumWritten(t *testing.T) { // P4.1
	for _, w := range []struct {
		key  []byte
		text string
		sum  string
	}{
		{bytes.Repeat([]byte{0x0b}, 20), "Hi There", "b0344c61d8db38535ca8afceaf0bf12b881dc200c9833da726e9376c2e32cff7"},
		{[]byte("Jefe"), "what do ya want for nothing?", "5bdcc146bf60754e6a042426089575c75a003f089d2739839dec58b964ec3843"},
		{bytes.Repeat([]byte{0xaa}, 20), strings.Repeat("\xdd", 50), "773ea91e36800e46854db8ebd09181a72959098b3ef8c122d9635514ced565fe"},
		{run(1, 25), strings.Repeat("\xcd", 50), "82558a389a443c0ea4cc819899f2083a85f0faa3e578f8077a2e3ff46729665b"},
		{bytes.Repeat([]byte{0xaa}, 131), "Test Using Larger Than Block-Size Key - Hash Key First", "60e431591ee0b67f0d8a26aacbf5b77f8e0bc6213728c5140546040f0ee37f54"},
		{bytes.Repeat([]byte{0xaa}, 131), "This is a test using a larger than block-size key and a larger than block-size data. The key needs to be hashed before being used by the HMAC algorithm.", "9b09ffa71b942fcb27635fbcd5b0e944bfdc63644f0713938a7f51535c3a35e2"},
		{nil, "", "b613679a0814d9ec772f95d778c35fc5ff1697c493715653c6c712144292c5ad"},
	} {
		if got := Sum(w.key, []byte(w.text)); !bytes.Equal(got[:], unhex(w.sum)) {
			t.Errorf("Sum of %q: %x", w.text, got)
		}
	}
}

// TestSumKeys: keys of every length up to some blocks.
func TestSumKeys(t *testing.T) { // P4.1
	r := rand.New(rand.NewSource(1))
	for n := range 300 {
		for _, key := range [][]byte{chance(r, n), make([]byte, n), bytes.Repeat([]byte{255}, n)} {
			for _, size := range []int{0, 1, 31, 55, 56, 63, 64, 65, 200} {
				sums(t, key, chance(r, size))
			}
			sums(t, key)
		}
	}
	for _, n := range []int{1000, 4096, 65536, 1 << 20} {
		sums(t, chance(r, n), chance(r, 50))
	}
}

// TestSumLongKey: just from 65 bytes on a key's sum stands for it, and noughts behind a shorter one are no other key.
func TestSumLongKey(t *testing.T) { // P4.1
	r := rand.New(rand.NewSource(2))
	b := chance(r, 100)
	for n := 60; n < 70; n++ {
		key := chance(r, n)
		sum := sha256.Sum256(key)
		if same := Sum(key, b) == Sum(sum[:], b); same != (n > 64) {
			t.Errorf("a key of %d bytes and its sum are the same: %v", n, same)
		}
		if same := Sum(key, b) == Sum(append(key, 0), b); same != (n < 64) {
			t.Errorf("a key of %d bytes and one with a nought behind it are the same: %v", n, same)
		}
	}
}

// TestSumKeyBits: each bit of a key counts.
func TestSumKeyBits(t *testing.T) { // P4.1
	for bit := range 64 * 8 {
		key := make([]byte, 64)
		key[bit/8] = 1 << (bit % 8)
		sums(t, key, []byte("text"))
	}
}

// TestSumSizes: bytes in any number.
func TestSumSizes(t *testing.T) { // P4.1
	r := rand.New(rand.NewSource(3))
	for n := range 400 {
		sums(t, chance(r, r.Intn(100)), chance(r, n))
	}
	for _, n := range []int{1000, 4096, 65535, 65536, 1 << 20} {
		sums(t, chance(r, 32), chance(r, n))
	}
}

// TestSumNoBytes: no parts, and parts without a byte, are the same; so are a nil key and an empty one.
func TestSumNoBytes(t *testing.T) { // P4.1
	for _, key := range [][]byte{nil, {}, {0}, []byte("key"), make([]byte, 64), make([]byte, 65)} {
		for _, parts := range [][][]byte{nil, {}, {nil}, {{}}, {nil, nil}, {nil, {}, nil}, {{}, {}, {}, {}}, make([][]byte, 300)} {
			sums(t, key, parts...)
			if Sum(key, parts...) != Sum(key) {
				t.Error("Sum of no parts isn't that of empty ones")
			}
		}
	}
	if Sum(nil, []byte("text")) != Sum([]byte{}, []byte("text")) {
		t.Error("Sum with no key isn't that with an empty one")
	}
}

// TestSumEmptyParts: parts that are nil or empty say nothing, ahead of, between and behind others.
func TestSumEmptyParts(t *testing.T) { // P4.1
	r := rand.New(rand.NewSource(4))
	for _, n := range []int{1, 2, 55, 56, 63, 64, 65, 128, 200} {
		b, key := chance(r, n), chance(r, 20)
		for _, at := range []int{0, 1, n / 2, n} {
			for _, empty := range [][]byte{nil, {}, b[at:at]} {
				for _, parts := range [][][]byte{
					{empty, b}, {b, empty}, {empty, empty, b, empty, empty},
					{b[:at], empty, b[at:]}, {empty, b[:at], empty, empty, b[at:], empty},
				} {
					sums(t, key, parts...)
				}
			}
		}
	}
}

// TestSumCuts: however the bytes are cut into parts, the sum is the same.
func TestSumCuts(t *testing.T) { // P4.1
	r := rand.New(rand.NewSource(5))
	for n := range 300 {
		b, key := chance(r, n), chance(r, r.Intn(100))
		whole := Sum(key, b)
		at := r.Intn(n + 1)
		if Sum(key, b[:at], b[at:]) != whole {
			t.Fatalf("Sum of %d bytes is another, cut at %d", n, at)
		}
		for _, most := range []int{1, 3, 64, 300} {
			parts := cuts(r, b, most)
			if Sum(key, parts...) != whole {
				t.Fatalf("Sum of %d bytes is another in %d parts", n, len(parts))
			}
		}
	}
}

// TestSumShared: the parts count in their order; each of several that share memory, with the key as well, counts.
func TestSumShared(t *testing.T) { // P4.1
	b := []byte("0123456789")
	for _, parts := range [][][]byte{{b, b}, {b[5:], b[:5]}, {b[:7], b[3:]}, {b, b[:0], b, b[9:]}, slices.Repeat([][]byte{b}, 100)} {
		sums(t, b, parts...)
		sums(t, b[2:6], parts...)
	}
	if Sum(b, b[:5], b[5:]) == Sum(b, b[5:], b[:5]) {
		t.Error("the order of the parts says nothing")
	}
	if Sum(b[:5], b[5:]) == Sum(b, nil) {
		t.Error("the key is a part")
	}
}

func TestExtract(t *testing.T) { // P4.2
	r := rand.New(rand.NewSource(6))
	for _, salt := range []int{0, 1, 13, 32, 63, 64, 65, 200} {
		for _, n := range []int{0, 1, 22, 32, 64, 65, 300} {
			s, b := chance(r, salt), chance(r, n)
			got := Extract(s, b)
			want, err := hkdf.Extract(sha256.New, b, s)
			if err != nil {
				t.Fatal(err)
			}
			if !bytes.Equal(got[:], want) || got != Sum(s, b) {
				t.Errorf("Extract of %d bytes with a salt of %d: %x, not %x", n, salt, got, want)
			}
		}
	}
	for _, empty := range [][]byte{nil, {}} {
		if Extract(empty, []byte("b")) != wantSum(nil, []byte("b")) || Extract([]byte("salt"), empty) != wantSum([]byte("salt"), nil) || Extract(empty, empty) != wantSum(nil, nil) {
			t.Error("Extract of what is empty")
		}
	}
}

func TestExample(t *testing.T) { // P4.2
	if got := Extract(run(0, 12), bytes.Repeat([]byte{0x0b}, 22)); !bytes.HasPrefix(got[:], []byte{0x07, 0x77, 0x09, 0x36}) {
		t.Errorf("%x", got)
	}
}

// TestExpandWritten: secrets and what comes out of them, as they are published.
func TestExpandWritten(t *testing.T) { // P4.2
	for _, w := range []struct {
		b, salt, info []byte
		secret, out   string
	}{
		{bytes.Repeat([]byte{0x0b}, 22), run(0, 12), run(0xf0, 0xf9),
			"077709362c2e32df0ddc3f0dc47bba6390b6c73bb50f9c3122ec844ad7c2b3e5",
			"3cb25f25faacd57a90434f64d0362f2a2d2d0a90cf1a5a4c5db02d56ecc4c5bf34007208d5b887185865"},
		{run(0, 0x4f), run(0x60, 0xaf), run(0xb0, 0xff),
			"06a6b88c5853361a06104c9ceb35b45cef760014904671014a193f40c15fc244",
			"b11e398dc80327a1c8e7f78c596a49344f012eda2d4efad8a050cc4c19afa97c59045a99cac7827271cb41c65e590e09da3275600c2f09b8367793a9aca3db71cc30c58179ec3e87c14c01d5c1f3434f1d87"},
		{bytes.Repeat([]byte{0x0b}, 22), nil, nil,
			"19ef24a32c717b167f33a91d6f648bdf96596776afdb6377ac434c1c293ccb04",
			"8da4e775a563c18f715f802a063c5a31b8a11f5c5ee1879ec3454e5f3c738d2d9d201395faa4b61a96c8"},
	} {
		secret := Extract(w.salt, w.b)
		if !bytes.Equal(secret[:], unhex(w.secret)) {
			t.Errorf("Extract of %d bytes: %x", len(w.b), secret)
		}
		want := unhex(w.out)
		got, e := Expand(api.Key(unhex(w.secret)), w.info, len(want))
		right(t, got, e, want)
	}
}

func TestExpandSizes(t *testing.T) { // P4.2
	r := rand.New(rand.NewSource(7))
	for _, n := range sizes {
		for _, size := range []int{0, 1, 10, 32, 64, 300} {
			expands(t, secretBy(r), chance(r, size), n)
		}
	}
	for n := range 500 {
		expands(t, secretBy(r), chance(r, n), n)
	}
	expands(t, api.Key{}, nil, 100)
}

func TestExpandRange(t *testing.T) { // P4.2
	for _, n := range wrongSizes {
		for _, info := range [][]byte{nil, {}, []byte("info")} {
			got, e := Expand(api.Key{1}, info, n)
			refused(t, got, e, api.ErrRange)
		}
	}
}

// TestExpandNoInfo: a nil info is an empty one.
func TestExpandNoInfo(t *testing.T) { // P4.2
	for _, n := range sizes {
		expands(t, api.Key{7}, nil, n)
		expands(t, api.Key{7}, []byte{}, n)
	}
}

// TestExpandBeginning: fewer bytes are the beginning of more.
func TestExpandBeginning(t *testing.T) { // P4.2
	secret, info := api.Key{3, 2, 1}, []byte("a purpose")
	most, e := Expand(secret, info, api.MaxExpand)
	right(t, most, e, wantExpand(t, secret, info, api.MaxExpand))
	for n := 0; n < api.MaxExpand; n += 1 + n/20 {
		got, e := Expand(secret, info, n)
		right(t, got, e, most[:n])
	}
}

// TestLabelWritten: keys as they are published, of TLS 1.3 (with a context) and of QUIC (without one).
func TestLabelWritten(t *testing.T) { // P4.2
	empty := sha256.Sum256(nil)
	early := Extract(nil, make([]byte, 32))
	first := Extract(unhex("38762cf7f55934b34d179ae6a4c80cadccbb7f0a"), unhex("8394c8f03e515708"))
	client := api.Key(unhex("c00cf151ca5be075ed0ebfb5c80323c42d6b7db67881289af4008f1f6c357aea"))
	for _, w := range []struct {
		secret  api.Key
		label   string
		context []byte
		out     string
	}{
		{early, "derived", empty[:], "6f2615a108c702c5678f54fc9dbab69716c076189c48250cebeac3576c3611ba"},
		{first, "client in", nil, "c00cf151ca5be075ed0ebfb5c80323c42d6b7db67881289af4008f1f6c357aea"},
		{first, "server in", nil, "3c199828fd139efd216c155ad844cc81fb82fa8d7446fa7d78be803acdda951b"},
		{client, "quic key", nil, "1f369613dd76d5467730efcbe3b1a22d"},
		{client, "quic iv", nil, "fa044b2f42a3fd3b46fb255c"},
		{client, "quic hp", nil, "9f50449e04a0e810283a1e9933adedd2"},
	} {
		want := unhex(w.out)
		got, e := Label(w.secret, w.label, w.context, len(want))
		right(t, got, e, want)
		if len(want) == 32 && Key(w.secret, w.label, w.context) != api.Key(want) {
			t.Errorf("Key for %q", w.label)
		}
	}
}

func TestLabelSizes(t *testing.T) { // P4.2
	r := rand.New(rand.NewSource(8))
	for _, n := range sizes {
		for _, label := range []int{0, 1, 9, 100, 248, 249} {
			for _, context := range []int{0, 1, 32, 100, 254, 255} {
				labels(t, secretBy(r), string(chance(r, label)), chance(r, context), n)
			}
		}
	}
}

// TestLabelEveryLength: labels and contexts of every length.
func TestLabelEveryLength(t *testing.T) { // P4.2
	r := rand.New(rand.NewSource(9))
	for n := range 256 {
		labels(t, secretBy(r), string(chance(r, min(n, 249))), chance(r, n), n)
	}
}

// TestLabelNoContext: a nil context is an empty one.
func TestLabelNoContext(t *testing.T) { // P4.2
	for _, label := range []string{"", "key", strings.Repeat("x", 249)} {
		labels(t, api.Key{5}, label, nil, 40)
		labels(t, api.Key{5}, label, []byte{}, 40)
	}
}

// TestLabelCountsBytes: a label is as long as its bytes are, not its runes; bytes that are no text are one, too.
func TestLabelCountsBytes(t *testing.T) { // P4.2
	wide := strings.Repeat("\u00fc", 124)
	labels(t, api.Key{5}, wide+"x", nil, 32)
	got, e := Label(api.Key{5}, wide+"xy", nil, 32)
	refused(t, got, e, api.ErrLong)
	labels(t, api.Key{5}, "\x00\xff\xfe", []byte{0, 255}, 32)
}

// TestLabelErrors: what is too long is told ahead of an n out of its range; Key has noughts then.
func TestLabelErrors(t *testing.T) { // P4.2
	texts := func(size int) string { return strings.Repeat("l", size) }
	for _, w := range []struct{ label, context int }{
		{250, 0}, {251, 0}, {256, 0}, {1 << 16, 0}, {256 - 6, 32}, {512 - 6, 32},
		{0, 256}, {0, 257}, {0, 512}, {9, 1 << 16}, {249, 256}, {250, 255}, {250, 256}, {1 << 16, 1 << 16},
	} {
		label, context := texts(w.label), make([]byte, w.context)
		for _, n := range slices.Concat(sizes, wrongSizes) {
			got, e := Label(api.Key{9}, label, context, n)
			refused(t, got, e, api.ErrLong)
		}
		if Key(api.Key{9}, label, context) != (api.Key{}) {
			t.Errorf("Key for a label of %d bytes and a context of %d isn't noughts", w.label, w.context)
		}
	}
	for _, n := range wrongSizes {
		for _, w := range []struct{ label, context int }{{0, 0}, {249, 0}, {0, 255}, {249, 255}} {
			got, e := Label(api.Key{9}, texts(w.label), make([]byte, w.context), n)
			refused(t, got, e, api.ErrRange)
		}
	}
}

// TestLabelKnowsItsSize: n is told within, so that fewer bytes aren't the beginning of more.
func TestLabelKnowsItsSize(t *testing.T) { // P4.2
	small, _ := Label(api.Key{1}, "key", nil, 32)
	great, _ := Label(api.Key{1}, "key", nil, 33)
	if bytes.HasPrefix(great, small) {
		t.Error("32 bytes are the beginning of 33")
	}
}

// TestLabelEnds: where the label ends and the context begins is told within.
func TestLabelEnds(t *testing.T) { // P4.2
	if Key(api.Key{1}, "ab", []byte("c")) == Key(api.Key{1}, "a", []byte("bc")) {
		t.Error("a label and a context run into one")
	}
}

// TestKey: each of what it is handed counts.
func TestKey(t *testing.T) { // P4.2
	seen := map[api.Key]bool{}
	for _, secret := range []api.Key{{}, {1}, {31: 1}} {
		for _, label := range []string{"", "a", "b", "tls13 ", "derived", strings.Repeat("x", 249)} {
			for _, context := range [][]byte{nil, {0}, {1}, {0, 0}, make([]byte, 255)} {
				k := Key(secret, label, context)
				if k != api.Key(wantLabel(t, secret, label, context, 32)) {
					t.Fatalf("Key for %q: %x", label, k)
				}
				if seen[k] {
					t.Fatalf("Key for %q is another one's, too", label)
				}
				seen[k] = true
			}
		}
	}
}

// watched: bytes with spare room behind them, and whether all of it is as it was.
func watched(n int) (b []byte, same func() bool) {
	room := slices.Concat(bytes.Repeat([]byte{7}, n), bytes.Repeat([]byte{9}, 300))
	before := slices.Clone(room)
	return room[:n], func() bool { return bytes.Equal(room, before) }
}

// TestArgumentsStay: R6: what is handed in is as it was, its spare room and the parts' list, too.
func TestArgumentsStay(t *testing.T) {
	for n := range 256 {
		key, keySame := watched(n)
		b, same := watched(n)
		list := [][]byte{b[:n/3], b[n/3:], nil, b[n:], {1, 2, 3}}
		Sum(key, list[:4]...)
		Sum(key, list[:0]...)
		Extract(key, b)
		Expand(api.Key{1}, b, 100)
		Label(api.Key{1}, "label", b, 100)
		Key(api.Key{1}, "label", b)
		if !keySame() || !same() {
			t.Fatalf("of %d bytes some are changed", n)
		}
		if len(list[0]) != n/3 || len(list[1]) != n-n/3 || list[2] != nil || len(list[3]) != 0 || !bytes.Equal(list[4], []byte{1, 2, 3}) {
			t.Fatalf("the list of %d bytes is changed", n)
		}
	}
}

// TestAnswersNew: R6: an answer doesn't change with what was handed in, nor with another answer.
func TestAnswersNew(t *testing.T) {
	secret := api.Key{4}
	for _, n := range []int{1, 31, 32, 33, 64, 100, 8160} {
		info := bytes.Repeat([]byte{6}, 50)
		want := wantExpand(t, secret, info, n)
		wantOther := wantLabel(t, secret, "label", info, n)
		first, _ := Expand(secret, info, n)
		second, e := Expand(secret, info, n)
		third, _ := Label(secret, "label", info, n)
		fourth, f := Label(secret, "label", info, n)
		clear(info)
		clear(first)
		clear(third)
		right(t, second, e, want)
		right(t, fourth, f, wantOther)
		if more := append(second, 1); &more[0] == &second[0] {
			t.Fatalf("%d bytes have spare room", n)
		}
	}
	key, b := []byte("key"), []byte("bytes")
	sum := Sum(key, b)
	clear(key)
	clear(b)
	if sum != wantSum([]byte("key"), []byte("bytes")) {
		t.Error("a sum changed behind its call")
	}
}

// TestSame: R8: the same is answered, whatever was asked before.
func TestSame(t *testing.T) {
	r := rand.New(rand.NewSource(10))
	for n := range 200 {
		secret, key, b := secretBy(r), chance(r, r.Intn(100)), chance(r, n)
		sum, k := Sum(key, b), Key(secret, "same", b)
		out, _ := Expand(secret, b, n)
		Sum(chance(r, 70), b, b)
		Expand(secretBy(r), key, 300)
		Label(secretBy(r), "other", key, -1)
		again, e := Expand(secret, b, n)
		right(t, again, e, out)
		if Sum(key, b) != sum || Key(secret, "same", b) != k {
			t.Fatalf("of %d bytes one answer is given, and another", n)
		}
	}
}

// TestAtOnce: R8: calls that run at the same time answer what they would by themselves.
func TestAtOnce(t *testing.T) {
	b := chance(rand.New(rand.NewSource(11)), 1000)
	want := func(n int) api.Key { return wantSum(b[:n], b[n:]) }
	var outs [200][]byte
	for n := range outs {
		outs[n] = wantExpand(t, want(n), b[:n], 32)
	}
	var group sync.WaitGroup
	for i := range 8 {
		group.Go(func() {
			for n := range outs {
				if Sum(b[:n+i], b[n+i:]) != want(n+i) {
					t.Errorf("the sum with a key of %d bytes is another at the same time", n+i)
					return
				}
				if out, _ := Expand(api.Key(want(n)), b[:n], 32); !bytes.Equal(out, outs[n]) {
					t.Errorf("what is expanded for %d bytes is another at the same time", n)
					return
				}
			}
		})
	}
	group.Wait()
}

func BenchmarkSum(b *testing.B) {
	key, piece := make([]byte, 32), make([]byte, 4096)
	b.SetBytes(int64(len(piece)))
	for range b.N {
		Sum(key, piece)
	}
}

func BenchmarkKey(b *testing.B) {
	for range b.N {
		Key(api.Key{1}, "derived", make([]byte, 32))
	}
}
