package hello

import (
	"bytes"
	"math/rand"
	"reflect"
	"slices"
	"strings"
	"sync"
	"testing"

	"skiff/api"
)

// stop is the fault at which the model leaves off.
type stop struct{ e api.Errno }

// cursor goes over bytes for the model.
type cursor struct{ rest []byte }

// next: so many bytes.
func (c *cursor) next(n int) []byte {
	if len(c.rest) < n {
		panic(stop{api.ErrShort})
	}
	b := c.rest[:n]
	c.rest = c.rest[n:]
	return b
}

// must: what holds, or the model leaves off.
func (c *cursor) must(holds bool, e api.Errno) {
	if !holds {
		panic(stop{e})
	}
}

// number: a short number.
func (c *cursor) number() uint64 {
	first := c.next(1)[0]
	n := uint64(first % 64)
	for _, v := range c.next([]int{0, 1, 3, 7}[first/64]) {
		n = 256*n + uint64(v)
	}
	return n
}

// params: parameters, by the chapter's words.
func (c *cursor) params() api.Params {
	var p api.Params
	p.Data = c.number()
	p.Stream = c.number()
	p.Streams = c.number()
	p.Idle = c.number()
	return p
}

// hello: by the chapter's words.
func (c *cursor) hello() api.Hello {
	var h api.Hello
	h.Random = api.Key(c.next(32))
	h.Share = api.Key(c.next(32))
	h.Params = c.params()
	n := int(c.next(1)[0])
	h.Psk = c.next(n)
	c.must(n <= 64, api.ErrLong)
	if n > 0 {
		h.Binder = api.Key(c.next(32))
	}
	return h
}

// answer: by the chapter's words.
func (c *cursor) answer() api.Answer {
	var a api.Answer
	a.Random = api.Key(c.next(32))
	a.Share = api.Key(c.next(32))
	last := c.next(1)[0]
	c.must(last == 0 || last == 1, api.ErrForm)
	a.Psk = last == 1
	return a
}

// cert: by the chapter's words.
func (c *cursor) cert() api.Cert {
	var v api.Cert
	n := int(c.next(1)[0])
	c.must(n >= 1 && n <= 32, api.ErrRange)
	v.Name = string(c.next(n))
	v.Key = api.Key(c.next(32))
	v.Sign = [64]byte(c.next(64))
	return v
}

// sort is one of the four things that are read, so that what holds of all can be asked of each.
type sort struct {
	name  string
	none  any // what is answered beside an error
	read  func(b []byte) (any, api.Errno)
	model func(c *cursor) any
	right func(r *rand.Rand) []byte // right bytes by chance
}

// sorts: all four.
func sorts() []sort {
	return []sort{
		{
			"ReadParams", api.Params{},
			func(b []byte) (any, api.Errno) { return plain(ReadParams(b)) },
			func(c *cursor) any { return c.params() },
			func(r *rand.Rand) []byte { return paramsModel(chanceParams(r)) },
		},
		{
			"ReadHello", api.Hello{},
			func(b []byte) (any, api.Errno) { return plain(ReadHello(b)) },
			func(c *cursor) any { return c.hello() },
			func(r *rand.Rand) []byte { return helloModel(chanceHello(r, r.Intn(2)*r.Intn(65))) },
		},
		{
			"ReadAnswer", api.Answer{},
			func(b []byte) (any, api.Errno) { return plain(ReadAnswer(b)) },
			func(c *cursor) any { return c.answer() },
			func(r *rand.Rand) []byte { return answerModel(chanceAnswer(r)) },
		},
		{
			"ReadCert", api.Cert{},
			func(b []byte) (any, api.Errno) { return plain(ReadCert(b)) },
			func(c *cursor) any { return c.cert() },
			func(r *rand.Rand) []byte { return certModel(chanceCert(r, 1+r.Intn(32))) },
		},
	}
}

// plain: an answer as any other of the four's, an empty name being nil.
func plain[T any](v T, e api.Errno) (any, api.Errno) {
	if h, ok := any(v).(api.Hello); ok && len(h.Psk) == 0 {
		h.Psk = nil
		return h, e
	}
	return v, e
}

// modelled: what must be answered of bytes.
func (s sort) modelled(b []byte) (v any, e api.Errno) {
	defer func() {
		if at, ok := recover().(stop); ok {
			v, e = s.none, at.e
		}
	}()
	c := cursor{b}
	v = s.model(&c)
	c.must(len(c.rest) == 0, api.ErrRest)
	return plain(v, api.OK)
}

// check: that just that is answered, and that beside an error it is nothing.
func (s sort) check(t *testing.T, b []byte) {
	t.Helper()
	v, e := s.read(b)
	want, wantE := s.modelled(b)
	if e != wantE || !reflect.DeepEqual(v, want) {
		t.Fatalf("%s(%x): %v, %d, not %v, %d", s.name, b, v, e, want, wantE)
	}
}

// gives: that bytes are read as that.
func (s sort) gives(t *testing.T, b []byte, want any) {
	t.Helper()
	if v, e := s.read(b); e != api.OK || !reflect.DeepEqual(v, want) {
		t.Fatalf("%s(%x): %v, %d, not %v", s.name, b, v, e, want)
	}
	s.check(t, b)
}

// fails: that bytes aren't read, with that error.
func (s sort) fails(t *testing.T, b []byte, want api.Errno) {
	t.Helper()
	if v, e := s.read(b); e != want || !reflect.DeepEqual(v, s.none) {
		t.Fatalf("%s(%x): %v, %d, not %d", s.name, b, v, e, want)
	}
	s.check(t, b)
}

// The four, each by its place.
func readsParams() sort { return sorts()[0] }
func readsHello() sort  { return sorts()[1] }
func readsAnswer() sort { return sorts()[2] }
func readsCert() sort   { return sorts()[3] }

// P14.3: by hand, field by field.
func TestReadBytes(t *testing.T) {
	random, share, third := rising(0, 32), rising(32, 32), rising(64, 32)
	limits := api.Params{Data: 1000, Stream: 500, Streams: 4, Idle: 10000}
	said := unhex("43e8 41f4 04 6710")
	readsParams().gives(t, said, limits)
	h := api.Hello{Random: api.Key(random), Share: api.Key(share), Params: limits}
	readsHello().gives(t, slices.Concat(random, share, said, []byte{0}), h)
	h.Psk, h.Binder = []byte("ab"), api.Key(third)
	readsHello().gives(t, slices.Concat(random, share, said, []byte("\x02ab"), third), h)
	a := api.Answer{Random: h.Random, Share: h.Share}
	readsAnswer().gives(t, slices.Concat(random, share, []byte{0}), a)
	a.Psk = true
	readsAnswer().gives(t, slices.Concat(random, share, []byte{1}), a)
	c := api.Cert{Name: "server", Key: h.Share, Sign: [64]byte(slices.Concat(third, random))}
	readsCert().gives(t, slices.Concat([]byte("\x06server"), share, third, random), c)
}

// P14.2, P14.3: what is made is read back, field by field.
func TestThereAndBack(t *testing.T) {
	r := rand.New(rand.NewSource(1431))
	for i := range 6500 {
		h := chanceHello(r, i%65)
		b, at, _ := Hello(h)
		_, body, _, _ := Take(b)
		if len(h.Psk) == 0 {
			h.Psk = nil
		} else if api.Key(b[at:]) != h.Binder {
			t.Fatalf("Hello(%v): the Binder isn't at %d", h, at)
		}
		readsHello().gives(t, body, h)
		p, _ := Params(h.Params)
		readsParams().gives(t, p, h.Params)
		a := chanceAnswer(r)
		_, body, _, _ = Take(Answer(a))
		readsAnswer().gives(t, body, a)
		c := chanceCert(r, 1+i%32)
		b, _ = Cert(c)
		_, body, _, _ = Take(b)
		readsCert().gives(t, body, c)
	}
}

// P14.3: a Binder isn't read without a name: what stands behind is too much.
func TestReadWithoutName(t *testing.T) {
	r := rand.New(rand.NewSource(1432))
	h := chanceHello(r, 0)
	h.Psk = nil
	b := helloModel(h)
	readsHello().gives(t, b, h)
	readsHello().fails(t, append(b, chance(r, 32)...), api.ErrRest)
}

// P14.3, R3: bytes lack, at each place.
func TestReadLacks(t *testing.T) {
	r := rand.New(rand.NewSource(1433))
	for _, s := range sorts() {
		for range 60 {
			b := s.right(r)
			for n := range b {
				s.fails(t, b[:n], api.ErrShort)
				s.fails(t, b[:n:len(b)], api.ErrShort)
			}
			s.check(t, b)
		}
		s.fails(t, nil, api.ErrShort)
		s.fails(t, []byte{}, api.ErrShort)
	}
}

// P14.3, R3: bytes that are too many.
func TestReadRest(t *testing.T) {
	r := rand.New(rand.NewSource(1434))
	for _, s := range sorts() {
		for range 100 {
			b := s.right(r)
			for _, n := range []int{1, 2, 31, 32, 33, 64, 1000} {
				s.fails(t, append(bytes.Clone(b), chance(r, n)...), api.ErrRest)
			}
			s.fails(t, append(bytes.Clone(b), 0), api.ErrRest)
			s.fails(t, append(bytes.Clone(b), b...), api.ErrRest)
		}
	}
}

// longer: in how many bytes a number may be written.
func longer(n uint64) []int {
	list := []int{1, 2, 4, 8}
	return list[slices.Index(list, len(least(n))):]
}

// P14.3: numbers in more bytes than need be, each at each place; bytes that lack of them; and a byte behind.
func TestReadLongNumbers(t *testing.T) {
	r := rand.New(rand.NewSource(1435))
	for _, a := range []uint64{0, 5, 63, 64, 16383, 16384, 1<<30 - 1, 1 << 30, 1<<62 - 1} {
		p := api.Params{Data: a, Stream: chanceNumber(r), Streams: a / 2, Idle: chanceNumber(r) >> 20}
		for _, i := range longer(p.Data) {
			for _, j := range longer(p.Stream) {
				for _, k := range longer(p.Streams) {
					for _, l := range longer(p.Idle) {
						b := slices.Concat(short(p.Data, i), short(p.Stream, j), short(p.Streams, k), short(p.Idle, l))
						readsParams().gives(t, b, p)
						for n := range b {
							readsParams().fails(t, b[:n], api.ErrShort)
						}
						readsParams().fails(t, append(b, 0), api.ErrRest)
						h := chanceHello(r, 3)
						h.Params = p
						readsHello().gives(t, slices.Concat(h.Random[:], h.Share[:], b, []byte{3}, h.Psk, h.Binder[:]), h)
					}
				}
			}
		}
	}
}

// P14.3: every first byte of each number.
func TestReadFirstBytes(t *testing.T) {
	r := rand.New(rand.NewSource(1436))
	for first := range 256 {
		for at := range 4 {
			for _, behind := range []int{0, 1, 3, 7, 10, 40} {
				b := slices.Concat(make([]byte, at), []byte{byte(first)}, chance(r, behind))
				readsParams().check(t, b)
				readsHello().check(t, slices.Concat(chance(r, 64), b))
			}
		}
	}
}

// named: a hello's bytes up to its name, which is said to have so many; then so many bytes.
func named(r *rand.Rand, said, have int) []byte {
	return slices.Concat(chance(r, 64), paramsModel(chanceParams(r)), []byte{byte(said)}, chance(r, have))
}

// P14.3, R2: names of every length that a byte can say: whose bytes lack (the reader's fault, whatever the length is), are just there, or have others behind.
func TestReadNames(t *testing.T) {
	r := rand.New(rand.NewSource(1437))
	for said := range 256 {
		for _, have := range []int{0, 1, said - 1, said, said + 1, said + 31, said + 32, said + 33, 300} {
			if have < 0 {
				continue
			}
			b := named(r, said, have)
			switch {
			case have < said:
				readsHello().fails(t, b, api.ErrShort)
			case said > 64:
				readsHello().fails(t, b, api.ErrLong)
			case said == 0 && have > 0:
				readsHello().fails(t, b, api.ErrRest)
			case said > 0 && have < said+32:
				readsHello().fails(t, b, api.ErrShort)
			case said > 0 && have > said+32:
				readsHello().fails(t, b, api.ErrRest)
			}
			readsHello().check(t, b)
		}
	}
}

// P14.3: 64 bytes of a name, and one more, with a Binder each.
func TestReadNameEdges(t *testing.T) {
	r := rand.New(rand.NewSource(1438))
	h := chanceHello(r, 64)
	readsHello().gives(t, helloModel(h), h)
	readsHello().fails(t, helloModel(chanceHello(r, 65)), api.ErrLong)
	readsHello().fails(t, helloModel(chanceHello(r, 255)), api.ErrLong)
}

// P14.3: an answer's last byte, each there is; with a byte behind it, too: the form is looked at first.
func TestReadAnswerLast(t *testing.T) {
	r := rand.New(rand.NewSource(1439))
	for last := range 256 {
		a := chanceAnswer(r)
		a.Psk = last == 1
		b := answerModel(a)
		b[64] = byte(last)
		if last > 1 {
			readsAnswer().fails(t, b, api.ErrForm)
			readsAnswer().fails(t, append(b, 0), api.ErrForm)
			continue
		}
		readsAnswer().gives(t, b, a)
		readsAnswer().fails(t, append(b, 0), api.ErrRest)
	}
}

// P14.3, R2: a certificate's name of every length that a byte can say; one that may not be is refused ahead of its bytes, which may lack.
func TestReadCertNames(t *testing.T) {
	r := rand.New(rand.NewSource(1440))
	for said := range 256 {
		for _, have := range []int{0, 1, said - 1, said, said + 1, said + 95, said + 96, said + 97, 400} {
			if have < 0 {
				continue
			}
			b := append([]byte{byte(said)}, chance(r, have)...)
			switch {
			case said == 0 || said > 32:
				readsCert().fails(t, b, api.ErrRange)
			case have < said+96:
				readsCert().fails(t, b, api.ErrShort)
			case have > said+96:
				readsCert().fails(t, b, api.ErrRest)
			}
			readsCert().check(t, b)
		}
	}
	for _, name := range []string{"\x00", "a", "\u00e9", "\xff\xfe", strings.Repeat("\x00", 32), strings.Repeat("x", 32)} {
		c := chanceCert(r, 1)
		c.Name = name
		readsCert().gives(t, certModel(c), c)
	}
}

// P1, P14.3: any bytes at all.
func TestReadAny(t *testing.T) {
	r := rand.New(rand.NewSource(1441))
	for _, s := range sorts() {
		for range 50000 {
			b := chance(r, r.Intn(220))
			if len(b) > 0 && r.Intn(2) == 0 {
				b[0] %= 64
			}
			s.check(t, b)
		}
		s.check(t, make([]byte, 1<<20))
		s.check(t, bytes.Repeat([]byte{255}, 1<<20))
		for n := range 300 {
			s.check(t, make([]byte, n))
			s.check(t, bytes.Repeat([]byte{1}, n))
			s.check(t, bytes.Repeat([]byte{255}, n))
		}
	}
}

// P1, P14.3: right bytes with one bit turned, and such as are cut, lengthened, or changed in several places.
func TestReadTurned(t *testing.T) {
	r := rand.New(rand.NewSource(1442))
	for _, s := range sorts() {
		for range 30 {
			right := s.right(r)
			for i := range 8 * len(right) {
				b := bytes.Clone(right)
				b[i/8] ^= 1 << (i % 8)
				s.check(t, b)
			}
		}
		for range 20000 {
			b := append(s.right(r), chance(r, r.Intn(2)*r.Intn(300))...)
			for range r.Intn(4) {
				b[r.Intn(len(b))] = []byte{0, 1, 2, 32, 33, 63, 64, 65, 128, 192, 255}[r.Intn(11)]
			}
			s.check(t, b[:len(b)-r.Intn(2)*r.Intn(len(b))])
		}
	}
}

// P14.3: one of the four's bytes handed to each.
func TestReadOthers(t *testing.T) {
	r := rand.New(rand.NewSource(1443))
	for _, of := range sorts() {
		for _, s := range sorts() {
			for range 300 {
				s.check(t, of.right(r))
			}
		}
	}
}

// P14.3, R6: what is handed in stays as it was, its spare room too, whether it is read or not; answers are new memory.
func TestReadMemory(t *testing.T) {
	r := rand.New(rand.NewSource(1444))
	for _, s := range sorts() {
		for range 50 {
			right := s.right(r)
			want, _ := s.modelled(bytes.Clone(right))
			for _, size := range []int{len(right), len(right) - 1, len(right) + 1, 3} {
				room := slices.Concat([]byte("ahead"), right, []byte("behind"))
				before := bytes.Clone(room)
				v, e := s.read(room[5 : 5+size])
				if !bytes.Equal(room, before) {
					t.Fatalf("%s has changed its argument: %d", s.name, e)
				}
				scribble(room)
				if size == len(right) && !reflect.DeepEqual(v, want) {
					t.Fatalf("%s: the answer changes with the argument", s.name)
				}
			}
		}
	}
	for _, n := range []int{1, 2, 30, 64} {
		room := helloModel(chanceHello(r, n))
		apart(t, "ReadHello", room, func() []byte {
			h, _ := ReadHello(room)
			if len(h.Psk) != n {
				t.Errorf("a name of %d, not %d", len(h.Psk), n)
			}
			return h.Psk
		})
	}
}

// R8: answers depend on the arguments alone, whoever else asks meanwhile, and whatever was asked before.
func TestReadTogether(t *testing.T) {
	var wait sync.WaitGroup
	for i := range 8 {
		wait.Go(func() {
			r := rand.New(rand.NewSource(int64(1445 + i)))
			for range 500 {
				s := sorts()[r.Intn(4)]
				b := s.right(r)
				if r.Intn(3) == 0 {
					b = b[:r.Intn(len(b))]
				}
				for range 2 {
					v, e := s.read(b)
					if want, wantE := s.modelled(b); e != wantE || !reflect.DeepEqual(v, want) {
						t.Errorf("%s(%x): %v, %d", s.name, b, v, e)
					}
				}
			}
		})
	}
	wait.Wait()
}
