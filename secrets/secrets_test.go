package secrets

import (
	"bytes"
	"crypto/hkdf"
	"crypto/hmac"
	"crypto/sha256"
	"encoding/hex"
	"math/rand"
	"slices"
	"strings"
	"sync"
	"testing"

	"skiff/api"
	"skiff/mac"
	"skiff/sha2"
)

// unhex: the bytes that a text of base sixteen tells.
func unhex(text string) []byte {
	b, err := hex.DecodeString(text)
	if err != nil {
		panic(err)
	}
	return b
}

// chance: so many bytes by chance.
func chance(r *rand.Rand, n int) []byte {
	b := make([]byte, n)
	r.Read(b)
	return b
}

// cuts: bytes in parts, cut by chance, some of them empty or nil.
func cuts(r *rand.Rand, b []byte) [][]byte {
	var parts [][]byte
	for len(b) > 0 {
		switch r.Intn(6) {
		case 0:
			parts = append(parts, nil)
		case 1:
			parts = append(parts, []byte{})
		}
		n := 1 + r.Intn(len(b))
		parts = append(parts, b[:n])
		b = b[n:]
	}
	return parts
}

// model is a schedule by the chapter's words, with the library's sums.
type model struct{ messages, secret []byte }

// sumModel: of bytes, by the library.
func sumModel(b []byte) []byte {
	sum := sha256.Sum256(b)
	return sum[:]
}

// signModel: of bytes, with a key, by the library.
func signModel(key, b []byte) []byte {
	h := hmac.New(sha256.New, key)
	h.Write(b)
	return h.Sum(nil)
}

// keyModel: out of a secret, for a label and a context, by the library; noughts where a label is too long.
func keyModel(secret []byte, label string, context []byte) []byte {
	if len(label) > 249 {
		return make([]byte, 32)
	}
	info := "\x00\x20" + string([]byte{byte(6 + len(label))}) + "tls13 " + label + string([]byte{byte(len(context))}) + string(context)
	k, err := hkdf.Expand(sha256.New, secret, info, 32)
	if err != nil {
		panic(err)
	}
	return k
}

// newModel: of a key shared beforehand.
func newModel(psk []byte) *model {
	if len(psk) == 0 {
		psk = make([]byte, 32)
	}
	return &model{secret: signModel(make([]byte, 32), psk)}
}

func (m *model) again(psk []byte) *model {
	n := newModel(psk)
	n.messages = bytes.Clone(m.messages)
	return n
}

func (m *model) add(list [][]byte) { m.messages = slices.Concat(m.messages, bytes.Join(list, nil)) }

func (m *model) sum(more [][]byte) []byte {
	return sumModel(slices.Concat(m.messages, bytes.Join(more, nil)))
}

func (m *model) next(k []byte) {
	m.secret = signModel(keyModel(m.secret, "derived", sumModel(nil)), k)
}

func (m *model) traffic(label string) (client, server []byte) {
	sum := m.sum(nil)
	return keyModel(m.secret, "c "+label+" traffic", sum), keyModel(m.secret, "s "+label+" traffic", sum)
}

func finishedModel(secret, sum []byte) []byte {
	return signModel(keyModel(secret, "finished", nil), sum)
}

func (m *model) binder(b []byte) []byte {
	return finishedModel(keyModel(m.secret, "ext binder", sumModel(nil)), sumModel(b))
}

// is: that a key is what it must be.
func is(t *testing.T, what string, got api.Key, want []byte) {
	t.Helper()
	if !bytes.Equal(got[:], want) {
		t.Errorf("%s: %x, not %x", what, got, want)
	}
}

// same: that a schedule answers what the model does, and goes on answering it.
func same(t *testing.T, what string, s *Schedule, m *model) {
	t.Helper()
	for range 2 {
		is(t, what+": Sum", s.Sum(), m.sum(nil))
		client, server := s.Traffic("hs")
		c, v := m.traffic("hs")
		is(t, what+": Traffic, client's", client, c)
		is(t, what+": Traffic, server's", server, v)
		is(t, what+": Binder", s.Binder([]byte("bytes")), m.binder([]byte("bytes")))
	}
}

// keys: keys shared beforehand, of every size that matters.
func keys(r *rand.Rand) [][]byte {
	list := [][]byte{nil, {}, {0}, {7}, make([]byte, 31), make([]byte, 32), make([]byte, 33), make([]byte, 64), make([]byte, 65)}
	for _, n := range []int{1, 2, 31, 32, 33, 63, 64, 65, 66, 100, 200, 4096} {
		list = append(list, chance(r, n))
	}
	return list
}

// hidden: the secret now, told by what it makes.
func hidden(s *Schedule) [2]api.Key {
	client, _ := s.Again(nil).Traffic("")
	return [2]api.Key{s.Binder(nil), client}
}

// P15.1: the chapter's example.
func TestExamples(t *testing.T) {
	if s := New(nil).secret; !bytes.Equal(s[:4], []byte{0x33, 0xad, 0x0a, 0x1c}) {
		t.Errorf("New of nothing: %x", s)
	}
}

// The first two messages of RFC 8448, chapter 3, and the key that both make.
const (
	clientHello = "010000c00303cb34ecb1e78163ba1c38c6dacb196a6dffa21a8d9912ec18a2ef6283024dece7000006130113031302010000910000000b0009000006736572766572ff01000100000a00140012001d0017001800190100010101020103010400230000003300260024001d002099381de560e4bd43d23d8e435a7dbafeb3c06e51c13cae4d5413691e529aaf2c002b0003020304000d0020001e040305030603020308040805080604010501060102010402050206020202002d00020101001c00024001"
	serverHello = "020000560303a6af06a4121860dc5e6e60249cd34c95930c8ac5cb1434dac155772ed3e2692800130100002e00330024001d0020c9828876112095fe66762bdbf7c672e156d6cc253b833df1dd69b1b04e751f0f002b00020304"
	bothMake    = "8bd4054fb55b9d63fdfbacf9f04b9f0d35e6d63f537563efd46272900f89492d"
)

// P15.1, P15.2: the secrets that RFC 8448 tells of a handshake, as far as its messages stand here.
func TestPublished(t *testing.T) {
	s := New(nil)
	is(t, "early secret", s.secret, unhex("33ad0a1c607ec03b09e6cd9893680ce210adf300aa1f2660e1b22e10f170f92a"))
	s.Add(unhex(clientHello), unhex(serverHello))
	is(t, "sum", s.Sum(), unhex("860c06edc07858ee8e78f0e7428c58edd6b43f2ca3e6e95f02ed063cf0e1cad8"))
	s.Next(unhex(bothMake))
	is(t, "handshake secret", s.secret, unhex("1dc826e93606aa6fdc0aadc12f741b01046aa6b99f691ed221a9f0ca043fbeac"))
	client, server := s.Traffic("hs")
	is(t, "client's", client, unhex("b3eddb126e067f35a780b3abf45e2d8f3b1a950738f52e9600746a0e27a55a21"))
	is(t, "server's", server, unhex("b67b7d690cc16c4e75e54213cb2d37b4e9c912bcded9105d42befd59d391ad38"))
	seen := api.Key(unhex("edb7725fa7a3473b031ec8ef65a2485493900138a2b91291407d7951a06110ed"))
	is(t, "server's finished", Finished(server, seen), unhex("9b9b141d906337fbd2cbdce71df4deda4ab42c309572cb7fffee5454b78f0718"))
	s.Next(make([]byte, 32))
	is(t, "master secret", s.secret, unhex("18df06843d13a08bf2a449844c5f8a478001bc4d4c627984d5a41da8d0402919"))
	resumed := New(unhex("4ecd0eb6ec3b4d87f5d6028f922ca4c5851a277fd41311c9e62d2c9492e1c4f3"))
	is(t, "early secret, resumed", resumed.secret, unhex("9b2188e9b2fc6d64d71dc329900e20bb41915000f678aa839cbb797cb7d8332c"))
}

// P15.1: New of keys of any size; nothing is as 32 noughts.
func TestNew(t *testing.T) {
	r := rand.New(rand.NewSource(1501))
	for _, psk := range keys(r) {
		s := New(psk)
		is(t, "secret", s.secret, newModel(psk).secret)
		if extracted := mac.Extract(make([]byte, 32), psk); len(psk) > 0 && s.secret != extracted {
			t.Errorf("New of %x: %x, not %x", psk, s.secret, extracted)
		}
		is(t, "no messages", s.Sum(), sumModel(nil))
		same(t, "New", s, newModel(psk))
	}
	if New(nil).secret != New(make([]byte, 32)).secret || New([]byte{}).secret != New(nil).secret {
		t.Error("nothing isn't as 32 noughts")
	}
}

// P15.1: Again has the messages so far, and the secret of the other key; each of the two goes on by itself.
func TestAgain(t *testing.T) {
	r := rand.New(rand.NewSource(1502))
	for _, psk := range keys(r) {
		for _, n := range []int{0, 1, 300} {
			s, m := New([]byte("a first one")), newModel([]byte("a first one"))
			b, k := chance(r, n), chance(r, 32)
			s.Add(b)
			m.add([][]byte{b})
			s.Next(k)
			m.next(k)
			other, otherModel := s.Again(psk), m.again(psk)
			is(t, "secret of another", other.secret, newModel(psk).secret)
			same(t, "another", other, otherModel)
			other.Add([]byte("other"))
			otherModel.add([][]byte{[]byte("other")})
			other.Next([]byte("k"))
			otherModel.next([]byte("k"))
			same(t, "the first, when another goes on", s, m)
			s.Add([]byte("first"), []byte("s"))
			m.add([][]byte{[]byte("firsts")})
			same(t, "the first, gone on", s, m)
			same(t, "another, gone on", other, otherModel)
		}
	}
}

// P15.1: many of one schedule, made at several places, share nothing.
func TestAgainOften(t *testing.T) {
	s, m := New(nil), newModel(nil)
	var others []*Schedule
	var models []*model
	for i := range 40 {
		others, models = append(others, s.Again(nil)), append(models, m.again(nil))
		for _, all := range []int{i, i / 2} {
			b := []byte{byte(i), byte(all)}
			others[all].Add(b)
			models[all].add([][]byte{b})
		}
		s.Add([]byte{byte(i)})
		m.add([][]byte{{byte(i)}})
	}
	for i := range others {
		is(t, "one of many", others[i].Sum(), models[i].sum(nil))
	}
	is(t, "the first", s.Sum(), m.sum(nil))
}

// P15.1: what is added counts by its bytes, however they are cut, and as often as it is added.
func TestAdd(t *testing.T) {
	r := rand.New(rand.NewSource(1503))
	for range 200 {
		b := chance(r, r.Intn(300))
		s, m := New(nil), newModel(nil)
		for _, part := range cuts(r, b) {
			switch r.Intn(3) {
			case 0:
				s.Add(part)
			case 1:
				s.Add(cuts(r, part)...)
			case 2:
				s.Add(nil, part, []byte{})
			}
			m.add([][]byte{part})
		}
		is(t, "cut", s.Sum(), sumModel(b))
		same(t, "cut", s, m)
	}
	s := New(nil)
	s.Add()
	s.Add(nil)
	s.Add([]byte{})
	s.Add(nil, nil, []byte{})
	s.Add([][]byte(nil)...)
	is(t, "of nothing", s.Sum(), sumModel(nil))
	s.Add([]byte("ab"))
	s.Add([]byte("ab"), []byte("ab"))
	is(t, "thrice", s.Sum(), sumModel([]byte("ababab")))
	s.Add([]byte("c"))
	is(t, "order", s.Sum(), sumModel([]byte("abababc")))
}

// P15.1: Sum is that of all messages, and more, of which nothing stays.
func TestSum(t *testing.T) {
	r := rand.New(rand.NewSource(1504))
	for range 200 {
		b, more := chance(r, r.Intn(200)), chance(r, r.Intn(200))
		s := New(chance(r, 9))
		s.Add(cuts(r, b)...)
		for _, parts := range [][][]byte{nil, {}, {nil}, {{}}, {nil, {}, nil}, {more}, cuts(r, more), {more, more}} {
			want := slices.Concat(b, bytes.Join(parts, nil))
			is(t, "Sum", s.Sum(parts...), sumModel(want))
			if s.Sum(parts...) != sha2.Sum256(want) {
				t.Error("Sum isn't Sum256 of all bytes")
			}
			is(t, "Sum behind", s.Sum(), sumModel(b))
		}
	}
}

// P15.1: Sum and Add don't hang on the secret, nor it on them.
func TestSumApart(t *testing.T) {
	s := New([]byte("one"))
	s.Add([]byte("abc"))
	sum, before := s.Sum(), hidden(s)
	s.Next([]byte("k"))
	if s.Sum() != sum || s.Again(nil).Sum() != sum {
		t.Error("Sum hangs on the secret")
	}
	was := s.secret
	s.Add([]byte("def"))
	if s.secret != was || hidden(s) == before {
		t.Error("the secret hangs on the messages")
	}
}

// P15.1: Next, by the chapter's sentence: with mac's calls.
func TestNext(t *testing.T) {
	r := rand.New(rand.NewSource(1505))
	for _, psk := range keys(r) {
		s, m := New(psk), newModel(psk)
		secret := s.secret
		for _, k := range keys(r) {
			salt := mac.Key(secret, "derived", unhex("e3b0c44298fc1c149afbf4c8996fb92427ae41e4649b934ca495991b7852b855"))
			secret = mac.Extract(salt[:], k)
			s.Next(k)
			m.next(k)
			if s.secret != secret {
				t.Fatalf("Next of %x: %x, not %x", k, s.secret, secret)
			}
			same(t, "Next", s, m)
			b := chance(r, r.Intn(50))
			s.Add(b)
			m.add([][]byte{b})
		}
	}
}

// P15.1: nothing is as 32 noughts in New alone: Next mixes in what it is handed as it is.
func TestNextNothing(t *testing.T) {
	one, other := New(nil), New(nil)
	one.Next(nil)
	other.Next(make([]byte, 32))
	if one.secret == other.secret {
		t.Error("Next of nothing is as Next of 32 noughts")
	}
	again := New(nil)
	again.Next([]byte{})
	if one.secret != again.secret {
		t.Error("Next of nil isn't Next of nothing")
	}
}

// labels: what Traffic is asked for: the handshake's, and others, up to those that leave no room for a label.
func labels() []string {
	list := []string{"hs", "ap", "", " ", "e", "\x00\xff", strings.Repeat("l", 100)}
	for n := 235; n < 255; n++ {
		list = append(list, strings.Repeat("l", n))
	}
	return append(list, strings.Repeat("l", 65536))
}

// P15.2: Traffic, by the chapter's sentence: with mac's calls, and against the model.
func TestTraffic(t *testing.T) {
	r := rand.New(rand.NewSource(1506))
	for _, psk := range keys(r) {
		s, m := New(psk), newModel(psk)
		for range 3 {
			sum := s.Sum()
			for _, label := range labels() {
				client, server := s.Traffic(label)
				c, v := m.traffic(label)
				is(t, "client's", client, c)
				is(t, "server's", server, v)
				if client != mac.Key(s.secret, "c "+label+" traffic", sum[:]) || server != mac.Key(s.secret, "s "+label+" traffic", sum[:]) {
					t.Errorf("Traffic(%q) isn't mac's", label)
				}
			}
			b, k := chance(r, 1+r.Intn(99)), chance(r, 32)
			s.Add(b)
			m.add([][]byte{b})
			s.Next(k)
			m.next(k)
		}
	}
}

// P15.2: a label that just has room makes secrets, and one more of its bytes makes noughts (mac.Key's).
func TestTrafficLong(t *testing.T) {
	s := New(nil)
	// Ahead of a label stand two bytes, behind it eight.
	client, server := s.Traffic(strings.Repeat("l", 239))
	if client == (api.Key{}) || server == (api.Key{}) || client == server {
		t.Errorf("the longest label: %x, %x", client, server)
	}
	client, server = s.Traffic(strings.Repeat("l", 240))
	if client != (api.Key{}) || server != (api.Key{}) {
		t.Errorf("too long a label: %x, %x", client, server)
	}
}

// P15.2: Finished, by the chapter's sentence: with mac's calls, and against the model.
func TestFinished(t *testing.T) {
	r := rand.New(rand.NewSource(1507))
	list := []api.Key{{}, {1}, {31: 1}, api.Key(bytes.Repeat([]byte{255}, 32))}
	for range 20 {
		list = append(list, api.Key(chance(r, 32)))
	}
	for _, secret := range list {
		for _, sum := range list {
			got := Finished(secret, sum)
			is(t, "Finished", got, finishedModel(secret[:], sum[:]))
			k := mac.Key(secret, "finished", nil)
			if got != mac.Sum(k[:], sum[:]) {
				t.Error("Finished isn't mac's")
			}
		}
	}
	for bit := range 256 {
		var k api.Key
		k[bit/8] = 1 << (bit % 8)
		if Finished(k, api.Key{}) == Finished(api.Key{}, api.Key{}) || Finished(api.Key{}, k) == Finished(api.Key{}, api.Key{}) {
			t.Errorf("bit %d of a secret or a sum doesn't count", bit)
		}
	}
}

// P15.2: Binder, by the chapter's sentence: with mac's calls, and against the model. Messages are left out.
func TestBinder(t *testing.T) {
	r := rand.New(rand.NewSource(1508))
	for _, psk := range keys(r) {
		s, m := New(psk), newModel(psk)
		for range 3 {
			for _, b := range [][]byte{nil, {}, {0}, []byte("bytes"), chance(r, 64), chance(r, 300)} {
				got := s.Binder(b)
				is(t, "Binder", got, m.binder(b))
				nothing := sha2.Sum256()
				if got != Finished(mac.Key(s.secret, "ext binder", nothing[:]), sha2.Sum256(b)) {
					t.Error("Binder isn't mac's")
				}
				s.Add(chance(r, 1+r.Intn(9)))
				if s.Binder(b) != got {
					t.Error("Binder hangs on messages")
				}
			}
			k := chance(r, 32)
			s.Next(k)
			m.next(k)
		}
	}
}

// P15.1, P15.2: calls in any order, against the model.
func TestAnyOrder(t *testing.T) {
	r := rand.New(rand.NewSource(1509))
	for range 300 {
		psk := chance(r, r.Intn(40))
		s, m := New(psk), newModel(psk)
		for range 40 {
			b := chance(r, r.Intn(90))
			switch r.Intn(8) {
			case 0:
				s.Add(cuts(r, b)...)
				m.add([][]byte{b})
			case 1:
				parts := cuts(r, b)
				is(t, "Sum", s.Sum(parts...), m.sum(parts))
			case 2:
				s.Next(b)
				m.next(b)
			case 3:
				client, server := s.Traffic(string(b))
				c, v := m.traffic(string(b))
				is(t, "client's", client, c)
				is(t, "server's", server, v)
			case 4:
				is(t, "Binder", s.Binder(b), m.binder(b))
			case 5:
				// One goes on, the other is left.
				if r.Intn(4) == 0 {
					s, m = s.Again(b), m.again(b)
				} else {
					s.Again(b).Add(b)
				}
			default:
				same(t, "any order", s, m)
			}
		}
	}
}

// P15.1, P15.2, R7: a nil schedule does nothing and answers noughts; asked for another it answers one without messages.
func TestNil(t *testing.T) {
	var s *Schedule
	s.Add()
	s.Add([]byte("a"), nil)
	s.Next(nil)
	s.Next([]byte("k"))
	client, server := s.Traffic("hs")
	for _, k := range []api.Key{s.Sum(), s.Sum([]byte("a")), s.Binder(nil), s.Binder([]byte("b")), client, server} {
		if k != (api.Key{}) {
			t.Errorf("a nil schedule answers %x", k)
		}
	}
	for _, psk := range keys(rand.New(rand.NewSource(1510))) {
		same(t, "of a nil one", s.Again(psk), newModel(psk))
	}
}

// P1: a schedule that nobody made ends all calls too, and keeps its messages.
func TestUnmade(t *testing.T) {
	s, m := new(Schedule), &model{secret: make([]byte, 32)}
	same(t, "unmade", s, m)
	s.Add([]byte("a"))
	m.add([][]byte{[]byte("a")})
	s.Next(nil)
	m.next(nil)
	same(t, "unmade", s, m)
	same(t, "of an unmade one", s.Again(nil), m.again(nil))
}

// scribble: other bytes over what was handed in, its spare room too.
func scribble(b []byte) {
	b = b[:cap(b)]
	for i := range b {
		b[i] ^= 0x55
	}
}

// handed: that a call leaves what it is handed as it is, its spare room too, and keeps none of it.
func handed(t *testing.T, what string, n int, call func(s *Schedule, b []byte)) {
	t.Helper()
	r := rand.New(rand.NewSource(int64(1511 + n)))
	room := chance(r, n+40)
	before := bytes.Clone(room)
	s, undisturbed := New(nil), New(nil)
	call(s, room[20:20+n])
	if !bytes.Equal(room, before) {
		t.Errorf("%s has changed its argument", what)
	}
	scribble(room)
	call(undisturbed, before[20:20+n])
	s.Add([]byte("more"))
	undisturbed.Add([]byte("more"))
	if s.Sum() != undisturbed.Sum() || hidden(s) != hidden(undisturbed) {
		t.Errorf("%s keeps its argument", what)
	}
}

// P15.1, P15.2, R6: what is handed in stays as it was, and none of it is kept.
func TestMemory(t *testing.T) {
	for _, n := range []int{0, 1, 32, 64, 65, 300} {
		handed(t, "New", n, func(s *Schedule, b []byte) { *s = *New(b) })
		handed(t, "Again", n, func(s *Schedule, b []byte) { *s = *s.Again(b) })
		handed(t, "Add", n, func(s *Schedule, b []byte) { s.Add(b) })
		handed(t, "Add of two", n, func(s *Schedule, b []byte) { s.Add(b[:n/2], b[n/2:]) })
		handed(t, "Sum", n, func(s *Schedule, b []byte) { s.Sum(b, b[:n/2]) })
		handed(t, "Next", n, func(s *Schedule, b []byte) { s.Next(b) })
		handed(t, "Binder", n, func(s *Schedule, b []byte) { s.Binder(b) })
	}
}

// P15.1, R6: a list that is handed in stays as it was, its spare room too.
func TestLists(t *testing.T) {
	for _, call := range []func(s *Schedule, list [][]byte){
		func(s *Schedule, list [][]byte) { s.Add(list...) },
		func(s *Schedule, list [][]byte) { s.Sum(list...) },
	} {
		for n := range 4 {
			list := [][]byte{[]byte("a"), []byte("b"), []byte("c"), []byte("d")}
			s := New(nil)
			s.Add([]byte("ahead"))
			call(s, list[:n])
			if !bytes.Equal(bytes.Join(list, nil), []byte("abcd")) {
				t.Errorf("a list of %d is changed: %s", n, list)
			}
		}
	}
}

// R6, R8: asking changes nothing, so that several may ask at once; and each schedule goes by what it keeps alone.
func TestTogether(t *testing.T) {
	shared, sharedModel := New([]byte("shared")), newModel([]byte("shared"))
	shared.Add([]byte("a"), []byte("b"), []byte("c"))
	sharedModel.add([][]byte{[]byte("abc")})
	var wait sync.WaitGroup
	for i := range 8 {
		wait.Go(func() {
			r := rand.New(rand.NewSource(int64(1512 + i)))
			for range 50 {
				same(t, "shared", shared, sharedModel)
				more := cuts(r, chance(r, 30))
				is(t, "Sum of a shared one", shared.Sum(more...), sharedModel.sum(more))
				s, m := shared.Again(nil), sharedModel.again(nil)
				s.Add(more...)
				m.add(more)
				k := chance(r, r.Intn(40))
				s.Next(k)
				m.next(k)
				same(t, "its own", s, m)
			}
		})
	}
	wait.Wait()
}
