package hello

import (
	"bytes"
	"encoding/hex"
	"math"
	"math/rand"
	"slices"
	"strings"
	"sync"
	"testing"

	"skiff/api"
)

// unhex: the bytes that a text of base sixteen tells, blanks left out.
func unhex(text string) []byte {
	b, err := hex.DecodeString(strings.ReplaceAll(text, " ", ""))
	if err != nil {
		panic(err)
	}
	return b
}

// rising: so many bytes, each one above the one ahead of it.
func rising(from byte, n int) []byte {
	b := make([]byte, n)
	for i := range b {
		b[i] = from + byte(i)
	}
	return b
}

// chance: so many bytes by chance.
func chance(r *rand.Rand, n int) []byte {
	b := make([]byte, n)
	r.Read(b)
	return b
}

// chanceKey: a key by chance.
func chanceKey(r *rand.Rand) api.Key { return api.Key(chance(r, 32)) }

// numbers: short numbers at the edges of each size, with the next below and above.
func numbers() []uint64 {
	return []uint64{
		0, 1, 62, 63, 64, 65, 255, 256, 16382, 16383, 16384, 16385, 65535, 65536,
		1<<30 - 2, 1<<30 - 1, 1 << 30, 1<<30 + 1, 1 << 32, 1<<56 - 1, 1 << 61, 1<<62 - 2, 1<<62 - 1,
	}
}

// tooGreat: numbers that aren't short numbers.
func tooGreat() []uint64 {
	return []uint64{1 << 62, 1<<62 + 1, 1 << 63, math.MaxUint64 - 1, math.MaxUint64}
}

// chanceNumber: a short number by chance, of any size.
func chanceNumber(r *rand.Rand) uint64 {
	if list := numbers(); r.Intn(2) == 0 {
		return list[r.Intn(len(list))]
	}
	return r.Uint64() >> (2 + r.Intn(62))
}

// chanceParams: parameters by chance.
func chanceParams(r *rand.Rand) api.Params {
	return api.Params{Data: chanceNumber(r), Stream: chanceNumber(r), Streams: chanceNumber(r), Idle: chanceNumber(r)}
}

// fields: each number of parameters.
func fields(p *api.Params) []*uint64 { return []*uint64{&p.Data, &p.Stream, &p.Streams, &p.Idle} }

// chanceHello: a hello by chance, with a name of so many bytes; without one it has no Binder.
func chanceHello(r *rand.Rand, n int) api.Hello {
	h := api.Hello{Random: chanceKey(r), Share: chanceKey(r), Params: chanceParams(r), Psk: chance(r, n)}
	if n > 0 {
		h.Binder = chanceKey(r)
	}
	return h
}

// chanceAnswer: an answer by chance.
func chanceAnswer(r *rand.Rand) api.Answer {
	return api.Answer{Random: chanceKey(r), Share: chanceKey(r), Psk: r.Intn(2) == 0}
}

// chanceCert: a certificate by chance, signed by nobody, with a name of so many bytes.
func chanceCert(r *rand.Rand, n int) api.Cert {
	return api.Cert{Name: string(chance(r, n)), Key: chanceKey(r), Sign: [64]byte(chance(r, 64))}
}

// short: a short number in so many bytes (1, 2, 4, 8), which needn't be the fewest.
func short(n uint64, size int) []byte {
	b := make([]byte, size)
	for i := range b {
		b[size-1-i] = byte(n)
		n /= 256
	}
	b[0] += map[int]byte{1: 0, 2: 64, 4: 128, 8: 192}[size]
	return b
}

// least: in as few bytes as may be.
func least(n uint64) []byte {
	switch {
	case n < 64:
		return short(n, 1)
	case n < 16384:
		return short(n, 2)
	case n < 1073741824:
		return short(n, 4)
	}
	return short(n, 8)
}

// paramsModel: parameters as bytes, by the chapter's words.
func paramsModel(p api.Params) []byte {
	return slices.Concat(least(p.Data), least(p.Stream), least(p.Streams), least(p.Idle))
}

// helloModel: a hello's bytes, by the chapter's words.
func helloModel(h api.Hello) []byte {
	b := slices.Concat(h.Random[:], h.Share[:], paramsModel(h.Params), []byte{byte(len(h.Psk))}, h.Psk)
	if len(h.Psk) == 0 {
		return b
	}
	return append(b, h.Binder[:]...)
}

// answerModel: an answer's bytes, by the chapter's words.
func answerModel(a api.Answer) []byte {
	b := slices.Concat(a.Random[:], a.Share[:], []byte{0})
	if a.Psk {
		b[64] = 1
	}
	return b
}

// certModel: a certificate's bytes, by the chapter's words.
func certModel(c api.Cert) []byte {
	return slices.Concat([]byte{byte(len(c.Name))}, []byte(c.Name), c.Key[:], c.Sign[:])
}

// messageModel: a message, by the chapter's words.
func messageModel(kind uint8, b []byte) []byte {
	n := len(b)
	return slices.Concat([]byte{kind, byte(n / 65536), byte(n / 256 % 256), byte(n % 256)}, b)
}

// taken: what Take answers.
type taken struct {
	kind uint8
	body []byte
	size int
	e    api.Errno
}

// takeModel: what it must answer, by the chapter's words.
func takeModel(b []byte) taken {
	if len(b) < 4 {
		return taken{}
	}
	n := 65536*int(b[1]) + 256*int(b[2]) + int(b[3])
	if n > 4096 {
		return taken{e: api.ErrLong}
	}
	if len(b) < 4+n {
		return taken{}
	}
	return taken{b[0], b[4 : 4+n], 4 + n, api.OK}
}

// takes: that Take answers just that.
func takes(t *testing.T, what string, b []byte, want taken) {
	t.Helper()
	kind, body, size, e := Take(b)
	if kind != want.kind || !bytes.Equal(body, want.body) || size != want.size || e != want.e {
		t.Fatalf("%s: Take of %d bytes (%x ..): %d, %d bytes, %d, %d, not %d, %d bytes, %d, %d", what, len(b), b[:min(len(b), 8)], kind, len(body), size, e, want.kind, len(want.body), want.size, want.e)
	}
}

// P14.1: the chapter's example.
func TestExamples(t *testing.T) {
	b, e := Message(15, []byte("x"))
	if e != api.OK || !bytes.Equal(b, unhex("0f 00 00 01 78")) {
		t.Errorf("Message(15, x): %x, %d", b, e)
	}
	takes(t, "x", b, taken{15, []byte("x"), 5, api.OK})
}

// P14.1: of any kind, of each length about an edge: the exact bytes, and Take's answer to them, with bytes behind and without.
func TestMessage(t *testing.T) {
	r := rand.New(rand.NewSource(1401))
	for kind := range 256 {
		for _, n := range []int{0, 1, 2, 3, 4, 5, 255, 256, 257, 511, 512, 4095, 4096} {
			want := chance(r, n)
			b, e := Message(uint8(kind), want)
			if e != api.OK || !bytes.Equal(b, messageModel(uint8(kind), want)) {
				t.Fatalf("Message(%d, %d bytes): %x, %d", kind, n, b, e)
			}
			for _, behind := range []int{0, 1, 3, 4, 5, 100} {
				takes(t, "a message", append(bytes.Clone(b), chance(r, behind)...), taken{uint8(kind), want, n + 4, api.OK})
			}
		}
	}
}

// P14.1: every length that may be.
func TestMessageLengths(t *testing.T) {
	r := rand.New(rand.NewSource(1402))
	room := chance(r, 5000)
	for n := range 4097 {
		b, e := Message(20, room[:n])
		if e != api.OK || !bytes.Equal(b, messageModel(20, room[:n])) {
			t.Fatalf("Message(20, %d bytes): %d bytes, %d", n, len(b), e)
		}
		takes(t, "all lengths", append(b, room[:n%7]...), taken{20, room[:n], n + 4, api.OK})
	}
}

// P14.1: the length's three bytes, the greatest first, by hand.
func TestMessageAhead(t *testing.T) {
	for _, c := range []struct {
		kind  uint8
		n     int
		ahead string
	}{
		{api.MHello, 0, "01 000000"}, {api.MAnswer, 1, "02 000001"}, {api.MParams, 255, "08 0000ff"}, {api.MCert, 256, "0b 000100"},
		{api.MVerify, 257, "0f 000101"}, {api.MFinished, 513, "14 000201"}, {255, 4095, "ff 000fff"}, {0, 4096, "00 001000"},
	} {
		want := append(unhex(c.ahead), rising(9, c.n)...)
		if b, e := Message(c.kind, rising(9, c.n)); e != api.OK || !bytes.Equal(b, want) {
			t.Errorf("Message(%d, %d bytes): %x, %d", c.kind, c.n, b, e)
		}
		takes(t, "by hand", want, taken{c.kind, rising(9, c.n), c.n + 4, api.OK})
	}
}

// P14.1, R5: nil is no bytes.
func TestMessageNone(t *testing.T) {
	for kind := range 256 {
		want := []byte{byte(kind), 0, 0, 0}
		for _, none := range [][]byte{nil, {}, make([]byte, 0, 50)} {
			if b, e := Message(uint8(kind), none); e != api.OK || !bytes.Equal(b, want) {
				t.Errorf("Message(%d) of nothing: %x, %d", kind, b, e)
			}
		}
		takes(t, "nothing", want, taken{uint8(kind), nil, 4, api.OK})
	}
}

// P14.1, R3: too many bytes.
func TestMessageLong(t *testing.T) {
	for _, n := range []int{4097, 4098, 5000, 8192, 65535, 65536, 65537, 1<<24 - 1, 1 << 24, 1<<24 + 1} {
		for _, kind := range []uint8{0, api.MHello, api.MVerify, 255} {
			if b, e := Message(kind, make([]byte, n)); e != api.ErrLong || b != nil {
				t.Errorf("Message(%d, %d bytes): %d bytes, %d", kind, n, len(b), e)
			}
		}
	}
}

// P14.1, R3: of a message bytes lack, at each place: nothing is said, and it is no error.
func TestTakeLacks(t *testing.T) {
	r := rand.New(rand.NewSource(1403))
	for _, n := range []int{0, 1, 2, 15, 16, 255, 256, 300, 4095, 4096} {
		whole := messageModel(uint8(1+r.Intn(255)), chance(r, n))
		for have := range whole {
			takes(t, "lacks", whole[:have], taken{})
		}
		takes(t, "all there", whole, taken{whole[0], whole[4:], n + 4, api.OK})
	}
	takes(t, "nil", nil, taken{})
	takes(t, "empty", []byte{}, taken{})
}

// P14.1: one byte to three say nothing yet, whatever they are.
func TestTakeFew(t *testing.T) {
	for first := range 256 {
		for _, b := range [][]byte{{byte(first)}, {byte(first), 0}, {byte(first), 255}, {1, byte(first)}, {byte(first), 0, 0}, {byte(first), 255, 255}, {1, byte(first), 0}, {1, 0, byte(first)}} {
			takes(t, "few", b, taken{})
		}
	}
}

// P14.1, R3: what says more than may be, whole or not; and what says just as much as may be.
func TestTakeLong(t *testing.T) {
	behind := rising(3, 1<<24+10)
	for _, kind := range []byte{0, api.MHello, api.MCert, 255} {
		for _, n := range []int{4097, 4098, 4352, 8191, 8192, 65535, 65536, 65537, 65540, 1 << 17, 1<<20 + 1, 1 << 23, 1<<24 - 2, 1<<24 - 1} {
			room := slices.Concat([]byte{kind, byte(n >> 16), byte(n >> 8), byte(n)}, behind[:n+5])
			for _, have := range []int{4, 5, 100, 4099, 4100, 4101, n + 3, n + 4, n + 5, n + 9} {
				takes(t, "too long", room[:min(have, len(room))], taken{e: api.ErrLong})
			}
		}
		most := slices.Concat([]byte{kind, 0, 16, 0}, behind[:4200])
		takes(t, "the most", most, taken{kind, behind[:4096], 4100, api.OK})
		takes(t, "the most", most[:4100], taken{kind, behind[:4096], 4100, api.OK})
		takes(t, "the most but one", most[:4099], taken{})
		takes(t, "the most, none of it", most[:4], taken{})
	}
}

// P14.1: spare room is no bytes.
func TestTakeSpare(t *testing.T) {
	whole := messageModel(11, rising(1, 40))
	for have := range whole {
		takes(t, "spare room", whole[:have:len(whole)], taken{})
	}
}

// P1, P14.1: any bytes at all, most of them with small lengths.
func TestTakeAny(t *testing.T) {
	r := rand.New(rand.NewSource(1404))
	for range 100000 {
		b := chance(r, r.Intn(40))
		for i := 1; i < min(4, len(b)) && r.Intn(4) > 0; i++ {
			b[i] = []byte{0, 0, byte(r.Intn(40))}[i-1]
		}
		takes(t, "any", b, takeModel(b))
	}
	for range 3000 {
		b := chance(r, r.Intn(9000))
		if len(b) > 3 {
			b[1], b[2] = 0, byte(r.Intn(18))
		}
		takes(t, "many", b, takeModel(b))
	}
}

// P14.1: messages one behind the other, taken one by one, however they come in.
func TestOneByOne(t *testing.T) {
	r := rand.New(rand.NewSource(1405))
	for range 200 {
		var list []taken
		var all []byte
		for range 1 + r.Intn(8) {
			body := chance(r, []int{0, 1, r.Intn(300), r.Intn(4097)}[r.Intn(4)])
			b, _ := Message(uint8(r.Intn(256)), body)
			list = append(list, taken{b[0], body, len(b), api.OK})
			all = append(all, b...)
		}
		var have []byte
		for len(list) > 0 {
			for len(have) >= list[0].size {
				takes(t, "the next", have, list[0])
				have, list = have[list[0].size:], list[1:]
				if len(list) == 0 {
					break
				}
			}
			takes(t, "not yet", have, takeModel(have))
			n := min(len(all), r.Intn(3000))
			have, all = append(have, all[:n]...), all[n:]
		}
		if len(have) > 0 || len(all) > 0 {
			t.Fatalf("%d bytes are left", len(have)+len(all))
		}
	}
}

// P14.2: the exact bytes, written by hand.
func TestBytes(t *testing.T) {
	random, share, third := "000102030405060708090a0b0c0d0e0f101112131415161718191a1b1c1d1e1f", "202122232425262728292a2b2c2d2e2f303132333435363738393a3b3c3d3e3f", "404142434445464748494a4b4c4d4e4f505152535455565758595a5b5c5d5e5f"
	limits := api.Params{Data: 1000, Stream: 500, Streams: 4, Idle: 10000}
	if b, e := Params(limits); e != api.OK || !bytes.Equal(b, unhex("43e8 41f4 04 6710")) {
		t.Errorf("Params(%v): %x, %d", limits, b, e)
	}
	h := api.Hello{Random: api.Key(unhex(random)), Share: api.Key(unhex(share)), Params: limits, Binder: api.Key(unhex(third))}
	want := unhex("01 000048" + random + share + "43e8 41f4 04 6710" + "00")
	if b, at, e := Hello(h); e != api.OK || at != 76 || !bytes.Equal(b, want) {
		t.Errorf("Hello without a name: %x, %d, %d", b, at, e)
	}
	h.Psk = []byte("ab")
	want = unhex("01 00006a" + random + share + "43e8 41f4 04 6710" + "02 6162" + third)
	if b, at, e := Hello(h); e != api.OK || at != 78 || !bytes.Equal(b, want) {
		t.Errorf("Hello with a name: %x, %d, %d", b, at, e)
	}
	a := api.Answer{Random: h.Random, Share: h.Share}
	if b := Answer(a); !bytes.Equal(b, unhex("02 000041"+random+share+"00")) {
		t.Errorf("Answer without: %x", b)
	}
	a.Psk = true
	if b := Answer(a); !bytes.Equal(b, unhex("02 000041"+random+share+"01")) {
		t.Errorf("Answer with: %x", b)
	}
	c := api.Cert{Name: "server", Key: h.Share, Sign: [64]byte(unhex(third + random))}
	if b, e := Cert(c); e != api.OK || !bytes.Equal(b, unhex("0b 000067 06 736572766572"+share+third+random)) {
		t.Errorf("Cert: %x, %d", b, e)
	}
}

// P14.2, R3: each field in each place at each edge, and one that is too great, alone or with others.
func TestParams(t *testing.T) {
	r := rand.New(rand.NewSource(1406))
	for at := range 4 {
		for _, n := range numbers() {
			for _, p := range []api.Params{{}, chanceParams(r), {Data: 1<<62 - 1, Stream: 1<<62 - 1, Streams: 1<<62 - 1, Idle: 1<<62 - 1}} {
				*fields(&p)[at] = n
				if b, e := Params(p); e != api.OK || !bytes.Equal(b, paramsModel(p)) {
					t.Errorf("Params(%v): %x, %d", p, b, e)
				}
			}
		}
		for _, n := range tooGreat() {
			for _, p := range []api.Params{{}, chanceParams(r), {Data: n, Stream: n, Streams: n, Idle: n}} {
				*fields(&p)[at] = n
				if b, e := Params(p); e != api.ErrRange || b != nil {
					t.Errorf("Params(%v): %x, %d", p, b, e)
				}
			}
		}
	}
	for range 20000 {
		p := chanceParams(r)
		if b, e := Params(p); e != api.OK || !bytes.Equal(b, paramsModel(p)) {
			t.Fatalf("Params(%v): %x, %d", p, b, e)
		}
	}
}

// says: that Hello answers its message by the chapter's words, and where its Binder begins.
func says(t *testing.T, h api.Hello) {
	t.Helper()
	want := messageModel(api.MHello, helloModel(h))
	at := len(want)
	if len(h.Psk) > 0 {
		at -= 32
	}
	if b, got, e := Hello(h); e != api.OK || got != at || !bytes.Equal(b, want) {
		t.Fatalf("Hello(%v): %x, %d, %d, not %x, %d", h, b, got, e, want, at)
	}
}

// P14.2: names of every length that may be, with numbers of every size.
func TestHello(t *testing.T) {
	r := rand.New(rand.NewSource(1407))
	for n := range 65 {
		for range 20 {
			says(t, chanceHello(r, n))
		}
		for at := range 4 {
			for _, v := range numbers() {
				h := chanceHello(r, n)
				*fields(&h.Params)[at] = v
				says(t, h)
			}
		}
	}
	says(t, api.Hello{})
	says(t, api.Hello{Psk: make([]byte, 64)})
	says(t, api.Hello{Psk: []byte{0}})
}

// P14.2, R5: without a name a Binder isn't written, and the message's end is where it would begin.
func TestHelloWithout(t *testing.T) {
	r := rand.New(rand.NewSource(1408))
	for _, none := range [][]byte{nil, {}, make([]byte, 0, 64)} {
		h := chanceHello(r, 0)
		h.Psk = none
		bare, at, e := Hello(h)
		if e != api.OK || at != len(bare) || bare[at-1] != 0 {
			t.Errorf("without a name: %x, %d, %d", bare, at, e)
		}
		h.Binder = chanceKey(r)
		if b, at, e := Hello(h); e != api.OK || at != len(bare) || !bytes.Equal(b, bare) {
			t.Errorf("without a name, with a Binder: %x, %d, %d", b, at, e)
		}
	}
}

// P14.2: of the Binder hangs just what stands from where it begins on.
func TestHelloBinder(t *testing.T) {
	r := rand.New(rand.NewSource(1409))
	for _, n := range []int{1, 2, 32, 63, 64} {
		h := chanceHello(r, n)
		a, at, _ := Hello(h)
		h.Binder = chanceKey(r)
		b, other, _ := Hello(h)
		if at != other || at != len(a)-32 || !bytes.Equal(a[:at], b[:at]) || api.Key(b[at:]) != h.Binder {
			t.Errorf("with a name of %d: %d of %d, %d of %d", n, at, len(a), other, len(b))
		}
	}
}

// P14.2, R2, R3: a name that is too long, parameters that can't be put, and both.
func TestHelloErrors(t *testing.T) {
	r := rand.New(rand.NewSource(1410))
	refused := func(h api.Hello, want api.Errno) {
		t.Helper()
		if b, at, e := Hello(h); e != want || b != nil || at != 0 {
			t.Errorf("Hello with a name of %d, %v: %x, %d, %d, not %d", len(h.Psk), h.Params, b, at, e, want)
		}
	}
	for _, n := range []int{65, 66, 128, 255, 256, 257, 320, 4096, 5000, 1 << 16} {
		refused(chanceHello(r, n), api.ErrLong)
	}
	for at := range 4 {
		for _, v := range tooGreat() {
			for _, n := range []int{0, 1, 64} {
				h := chanceHello(r, n)
				*fields(&h.Params)[at] = v
				refused(h, api.ErrRange)
			}
			for _, n := range []int{65, 256, 5000} {
				h := chanceHello(r, n)
				*fields(&h.Params)[at] = v
				refused(h, api.ErrLong)
			}
		}
	}
}

// P14.2: with and without.
func TestAnswer(t *testing.T) {
	r := rand.New(rand.NewSource(1411))
	for range 1000 {
		a := chanceAnswer(r)
		if b := Answer(a); !bytes.Equal(b, messageModel(api.MAnswer, answerModel(a))) {
			t.Fatalf("Answer(%v): %x", a, b)
		}
	}
}

// P14.2, R3: names of every length that may be, and of none, and of too many bytes.
func TestCert(t *testing.T) {
	r := rand.New(rand.NewSource(1412))
	for n := 1; n <= 32; n++ {
		for range 20 {
			c := chanceCert(r, n)
			if b, e := Cert(c); e != api.OK || !bytes.Equal(b, messageModel(api.MCert, certModel(c))) {
				t.Fatalf("Cert(%v): %x, %d", c, b, e)
			}
		}
	}
	for _, n := range []int{0, 33, 34, 64, 255, 256, 257, 288, 1 << 16} {
		if b, e := Cert(chanceCert(r, n)); e != api.ErrRange || b != nil {
			t.Errorf("Cert of a name of %d bytes: %x, %d", n, b, e)
		}
	}
}

// P14.2: a name's bytes count, not its letters.
func TestNameBytes(t *testing.T) {
	for name, right := range map[string]bool{
		strings.Repeat("\u00e9", 16): true, strings.Repeat("\u00e9", 17): false, strings.Repeat("\u00e9", 16) + "a": false,
		"\u00e9": true, "\x00": true, "\xff\xfe": true, strings.Repeat("\x00", 32): true, strings.Repeat("\x00", 33): false,
	} {
		c := api.Cert{Name: name}
		b, e := Cert(c)
		if right && (e != api.OK || !bytes.Equal(b, messageModel(api.MCert, certModel(c)))) || !right && (e != api.ErrRange || b != nil) {
			t.Errorf("Cert of the name %q: %x, %d", name, b, e)
		}
	}
}

// P14.1, P14.2: what is made as a message is one, of the kind that it has, and no more.
func TestMade(t *testing.T) {
	r := rand.New(rand.NewSource(1413))
	for range 1000 {
		h, c, a := chanceHello(r, r.Intn(65)), chanceCert(r, 1+r.Intn(32)), chanceAnswer(r)
		b, _, _ := Hello(h)
		takes(t, "a hello", b, taken{1, helloModel(h), len(b), api.OK})
		b = Answer(a)
		takes(t, "an answer", b, taken{2, answerModel(a), 69, api.OK})
		b, _ = Cert(c)
		takes(t, "a certificate", b, taken{11, certModel(c), len(b), api.OK})
		p, _ := Params(h.Params)
		b, _ = Message(api.MParams, p)
		takes(t, "parameters", b, taken{8, paramsModel(h.Params), len(b), api.OK})
	}
}

// scribble: other bytes over what was answered, its spare room too.
func scribble(b []byte) {
	b = b[:cap(b)]
	for i := range b {
		b[i] ^= 0x55
	}
}

// apart: that what a call answers is new memory, of which nothing is kept, and that it leaves what it is handed, within room, as it is.
func apart(t *testing.T, what string, room []byte, call func() []byte) {
	t.Helper()
	before := bytes.Clone(room)
	first := call()
	want := bytes.Clone(first)
	if !bytes.Equal(room, before) {
		t.Errorf("%s has changed its argument", what)
	}
	scribble(room)
	if !bytes.Equal(first, want) {
		t.Errorf("%s: the answer changes with the argument", what)
	}
	copy(room, before)
	scribble(first)
	if !bytes.Equal(room, before) {
		t.Errorf("%s: the answer shares memory with the argument", what)
	}
	if second := call(); !bytes.Equal(second, want) {
		t.Errorf("%s: the answer hangs on what was done with an earlier one", what)
	}
}

// P14.1, P14.2, R6: what is handed in stays as it was, its spare room too, and answers are new memory.
func TestMemory(t *testing.T) {
	r := rand.New(rand.NewSource(1414))
	for _, n := range []int{0, 1, 2, 30, 64} {
		room := chance(r, 200)
		apart(t, "Message", room, func() []byte {
			b, _ := Message(7, room[20:20+n])
			return b
		})
		copy(room[20:], []byte{7, 0, 0, byte(n)})
		apart(t, "Take", room, func() []byte {
			_, body, size, e := Take(room[20:])
			if size != n+4 || e != api.OK {
				t.Errorf("Take: %d, %d", size, e)
			}
			return body
		})
		h := chanceHello(r, 0)
		h.Psk = room[20 : 20+n]
		apart(t, "Hello", room, func() []byte {
			b, _, _ := Hello(h)
			return b
		})
	}
	room := chance(r, 5000)
	apart(t, "Message of too much", room, func() []byte {
		b, _ := Message(7, room[:4097])
		return b
	})
	h := api.Hello{Psk: room[:65]}
	apart(t, "Hello of too long a name", room, func() []byte {
		b, _, _ := Hello(h)
		return b
	})
	p, a, c := chanceParams(r), chanceAnswer(r), chanceCert(r, 9)
	apart(t, "Params", nil, func() []byte {
		b, _ := Params(p)
		return b
	})
	apart(t, "Answer", nil, func() []byte { return Answer(a) })
	apart(t, "Cert", nil, func() []byte {
		b, _ := Cert(c)
		return b
	})
}

// R8: answers depend on the arguments alone, whoever else asks meanwhile, and whatever was asked before.
func TestTogether(t *testing.T) {
	var wait sync.WaitGroup
	for i := range 8 {
		wait.Go(func() {
			r := rand.New(rand.NewSource(int64(1415 + i)))
			for range 300 {
				h, a, c := chanceHello(r, r.Intn(65)), chanceAnswer(r), chanceCert(r, 1+r.Intn(32))
				for range 2 {
					if b, _, e := Hello(h); e != api.OK || !bytes.Equal(b, messageModel(1, helloModel(h))) {
						t.Errorf("Hello(%v): %x, %d", h, b, e)
					}
					if b, e := Params(h.Params); e != api.OK || !bytes.Equal(b, paramsModel(h.Params)) {
						t.Errorf("Params(%v): %x, %d", h.Params, b, e)
					}
					if b := Answer(a); !bytes.Equal(b, messageModel(2, answerModel(a))) {
						t.Errorf("Answer(%v): %x", a, b)
					}
					if b, e := Cert(c); e != api.OK || !bytes.Equal(b, messageModel(11, certModel(c))) {
						t.Errorf("Cert(%v): %x, %d", c, b, e)
					}
				}
				b := messageModel(uint8(r.Intn(256)), chance(r, r.Intn(100)))
				if kind, body, size, e := Take(b); e != api.OK || size != len(b) || kind != b[0] || !bytes.Equal(body, b[4:]) {
					t.Errorf("Take(%x): %d, %x, %d, %d", b, kind, body, size, e)
				}
				if again, e := Message(b[0], b[4:]); e != api.OK || !bytes.Equal(again, b) {
					t.Errorf("Message(%d, %x): %x, %d", b[0], b[4:], again, e)
				}
			}
		})
	}
	wait.Wait()
}
