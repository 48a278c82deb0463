package shake

import (
	"bytes"
	"math"
	"math/rand"
	"slices"
	"sync"
	"testing"

	"skiff/api"
	"skiff/ladder"
)

// made: a handshake that must be.
func made(t *testing.T, c Config) *Shake {
	t.Helper()
	s, e := New(c)
	if e != api.OK || s == nil {
		t.Fatalf("New: %v, error %d", s, e)
	}
	return s
}

// both: a client and a server, of whom the client has begun.
func both(t *testing.T, p couple) (client, server *Shake, hello []byte) {
	t.Helper()
	client, server = made(t, p.client), made(t, p.server)
	outs := client.Start()
	if len(outs) != 1 || outs[0].Space != api.SInitial {
		t.Fatalf("Start: %v", outs)
	}
	return client, server, outs[0].Data
}

// stands: that a handshake stands as it must, as often as it is asked.
func stands(t *testing.T, what string, s *Shake, want state) {
	t.Helper()
	for range 2 {
		if got := ask(s); got != want {
			t.Fatalf("%s: %+v, not %+v", what, got, want)
		}
	}
	for _, space := range []int{-1, 3, 4, math.MinInt, math.MaxInt, 256, 257, 1 << 32, 1<<32 + 1} {
		if k, ok := s.Keys(space); ok || k != (api.Pair{}) {
			t.Fatalf("%s: Keys(%d): %v, %v", what, space, k, ok)
		}
	}
}

// takes: that bytes of a space are taken, and what is sent for them.
func takes(t *testing.T, what string, s *Shake, space int, b []byte, want ...api.Out) {
	t.Helper()
	outs, e := s.Take(space, b)
	if e != api.OK || !sameOuts(outs, want) {
		t.Fatalf("%s: Take(%d, %x): %x, error %d, not %x", what, space, b, outs, e, want)
	}
}

// sameOuts: whether two lists say the same.
func sameOuts(a, b []api.Out) bool {
	return slices.EqualFunc(a, b, func(x, y api.Out) bool { return x.Space == y.Space && bytes.Equal(x.Data, y.Data) })
}

// ends: that bytes end a handshake with an error, which is answered again behind, whatever comes; how it stands stays.
func ends(t *testing.T, what string, s *Shake, space int, b []byte, want api.Errno) {
	t.Helper()
	before := ask(s)
	outs, e := s.Take(space, b)
	if e != want || len(outs) > 0 {
		t.Fatalf("%s: Take(%d, %x): %x, error %d, not %d", what, space, b, outs, e, want)
	}
	stands(t, what+", ended", s, before)
	for _, again := range []int{space, 0, 1, 2, -1, 3} {
		for _, more := range [][]byte{nil, b, {255, 255, 255, 255}} {
			if outs, e := s.Take(again, more); e != want || len(outs) > 0 {
				t.Fatalf("%s: Take(%d, %x) behind the end: %x, error %d, not %d", what, again, more, outs, e, want)
			}
		}
	}
	stands(t, what+", ended for long", s, before)
}

// P16.1: New of a client and of a server.
func TestNew(t *testing.T) {
	for _, p := range couples(rand.New(rand.NewSource(1601))) {
		for _, c := range []Config{p.client, p.server} {
			stands(t, p.what, made(t, c), state{})
		}
	}
	stands(t, "of nothing", made(t, Config{}), state{})
	stands(t, "server of nothing", made(t, Config{Server: true}), state{})
}

// P16.1: each parameter up to 2^62 - 1, and none above it.
func TestNewParams(t *testing.T) {
	for i := range 4 {
		for _, server := range []bool{false, true} {
			c := Config{Server: server}
			field := []*uint64{&c.Params.Data, &c.Params.Stream, &c.Params.Streams, &c.Params.Idle}[i]
			for _, n := range []uint64{0, 1, api.MaxVar - 1, api.MaxVar} {
				*field = n
				made(t, c)
			}
			for _, n := range []uint64{api.MaxVar + 1, api.MaxVar + 2, 1 << 63, math.MaxUint64} {
				*field = n
				refused(t, c)
			}
		}
	}
}

// refused: that New doesn't take this.
func refused(t *testing.T, c Config) {
	t.Helper()
	if s, e := New(c); e != api.ErrConfig || s != nil {
		t.Errorf("New of %+v: %v, error %d", c, s, e)
	}
}

// P16.1, R5: a name of a key has up to 64 bytes, and neither stands by itself.
func TestNewKeys(t *testing.T) {
	r := rand.New(rand.NewSource(1602))
	for _, server := range []bool{false, true} {
		for _, n := range []int{1, 2, 63, 64} {
			for _, size := range []int{1, 32, 64, 65, 5000} {
				made(t, Config{Server: server, PskName: chance(r, n), Psk: chance(r, size)})
			}
			for _, none := range [][]byte{nil, {}} {
				refused(t, Config{Server: server, PskName: chance(r, n), Psk: none})
			}
		}
		for _, n := range []int{65, 66, 128, 255, 256, 257, 320, 5000} {
			for _, psk := range [][]byte{nil, {}, {1}, chance(r, 64)} {
				refused(t, Config{Server: server, PskName: chance(r, n), Psk: psk})
			}
		}
		for _, none := range [][]byte{nil, {}} {
			for _, n := range []int{1, 64, 65} {
				refused(t, Config{Server: server, PskName: none, Psk: chance(r, n)})
			}
			made(t, Config{Server: server, PskName: none, Psk: nil})
			made(t, Config{Server: server, PskName: none, Psk: []byte{}})
		}
	}
}

// P16.1: a client's Start is its MHello, byte by byte.
func TestStart(t *testing.T) {
	for _, p := range couples(rand.New(rand.NewSource(1603))) {
		client, _, hello := both(t, p)
		if want := helloModel(p.client, shareModel(p.client.Secret)); !bytes.Equal(hello, want) {
			t.Errorf("%s: %x, not %x", p.what, hello, want)
		}
		stands(t, p.what, client, state{})
	}
}

// P16.1: a few hellos, written by hand but for what is reckoned.
func TestStartBytes(t *testing.T) {
	c := Config{Random: api.Key{1, 31: 2}, Secret: api.Key{3}, Params: api.Params{Data: 63, Stream: 64, Streams: 16384, Idle: 1 << 30}}
	share := ladder.Public(c.Secret)
	body := append(append(bytes.Clone(c.Random[:]), share[:]...), 0x3f, 0x40, 0x40, 0x80, 0, 0x40, 0, 0xc0, 0, 0, 0, 0x40, 0, 0, 0)
	_, _, b := both(t, couple{client: c})
	if want := append(append([]byte{1, 0, 0, 32 + 32 + 15 + 1}, body...), 0); !bytes.Equal(b, want) {
		t.Errorf("without: %x, not %x", b, want)
	}
	c.PskName, c.Psk = []byte("ab"), []byte("k")
	_, _, b = both(t, couple{client: c})
	want := append(append([]byte{1, 0, 0, 32 + 32 + 15 + 3 + 32}, body...), 2, 'a', 'b')
	want = append(want, binderModel([]byte("k"), want)...)
	if !bytes.Equal(b, want) {
		t.Errorf("with: %x, not %x", b, want)
	}
}

// P16.1: a server's Start answers nothing, and does nothing, at any step.
func TestStartServer(t *testing.T) {
	p := couples(rand.New(rand.NewSource(1604)))[0]
	y := tell(p.client, p.server)
	s := made(t, p.server)
	states := serverStates(y, p.client.Params)
	rest := func(want state) {
		t.Helper()
		if outs := s.Start(); len(outs) > 0 {
			t.Errorf("a server's Start: %x", outs)
		}
		stands(t, "a server's Start", s, want)
	}
	rest(states[0])
	takes(t, "half", s, 0, y.hello[:9])
	rest(states[0])
	takes(t, "the other half", s, 0, y.hello[9:], api.Out{Space: 0, Data: y.answer}, api.Out{Space: 1, Data: y.all()})
	rest(states[1])
	takes(t, "the last", s, 1, y.last)
	rest(states[2])
	ends(t, "too much", s, 1, y.last, api.ErrState)
	rest(states[2])
	ends(t, "too much", s, 1, y.last, api.ErrState)
}

// P16.1: a client's Start begins anew, whatever has been.
func TestStartAnew(t *testing.T) {
	t.Parallel()
	r := rand.New(rand.NewSource(1605))
	for _, p := range couples(r) {
		y := tell(p.client, p.server)
		for n := range 2 + len(y.flight) {
			for _, fault := range []bool{false, true} {
				client, _, _ := both(t, p)
				upTo(t, p, y, client, n)
				if fault {
					ends(t, p.what, client, 2, messageModel(0), api.ErrState)
				} else {
					takes(t, p.what, client, r.Intn(3), []byte{api.MFinished, 0})
				}
				if outs := client.Start(); !sameOuts(outs, []api.Out{{Space: 0, Data: y.hello}}) {
					t.Fatalf("%s: Start anew: %x", p.what, outs)
				}
				stands(t, p.what, client, state{})
				upTo(t, p, y, client, 1+len(y.flight))
			}
		}
	}
}

// upTo: that a client that has begun takes so many of the server's messages.
func upTo(t *testing.T, p couple, y story, client *Shake, n int) {
	t.Helper()
	states := clientStates(y, p.server.Params)
	for i := range n {
		space, m, outs := 1, y.answer, []api.Out(nil)
		if i == 0 {
			space = 0
		} else {
			m = y.flight[i-1]
		}
		if i == len(y.flight) {
			outs = []api.Out{{Space: 1, Data: y.last}}
		}
		takes(t, p.what, client, space, m, outs...)
		stands(t, p.what, client, states[i+1])
	}
}

// P16.1, P16.2: a client that hasn't begun awaits nothing; what came ahead of Start is forgotten.
func TestAheadOfStart(t *testing.T) {
	p := couples(rand.New(rand.NewSource(1606)))[0]
	y := tell(p.client, p.server)
	for _, kind := range kinds() {
		for space := range api.Spaces {
			client := made(t, p.client)
			ends(t, "ahead of Start", client, space, messageModel(kind), api.ErrState)
			client.Start()
			upTo(t, p, y, client, 1+len(y.flight))
		}
	}
	client := made(t, p.client)
	for space := range api.Spaces {
		takes(t, "ahead of Start", client, space, []byte{1, 2})
	}
	client.Start()
	upTo(t, p, y, client, 1+len(y.flight))
}

// kinds: of messages, those that there are, and others.
func kinds() []uint8 { return []uint8{0, 1, 2, 3, 8, 11, 15, 20, 21, 24, 127, 128, 255} }

// P16.2, P16.3: what a server says to a client's MHello, whole, and byte by byte, and how it stands.
func TestServer(t *testing.T) {
	r := rand.New(rand.NewSource(1607))
	for _, p := range couples(r) {
		y := tell(p.client, p.server)
		states := serverStates(y, p.client.Params)
		outs := []api.Out{{Space: 0, Data: y.answer}, {Space: 1, Data: y.all()}}
		s := made(t, p.server)
		takes(t, p.what, s, 0, y.hello, outs...)
		stands(t, p.what, s, states[1])
		takes(t, p.what, s, 1, y.last)
		stands(t, p.what, s, states[2])
		for range 3 {
			s = made(t, p.server)
			piecemeal(t, p.what, r, s, 0, y.hello, states[:2], outs...)
			piecemeal(t, p.what, r, s, 1, y.last, states[1:])
		}
	}
}

// piecemeal: that a message handed over in pieces does nothing up to its last byte.
func piecemeal(t *testing.T, what string, r *rand.Rand, s *Shake, space int, m []byte, states []state, outs ...api.Out) {
	t.Helper()
	parts := cuts(r, m[:len(m)-1])
	if r.Intn(3) == 0 {
		parts = slices.Collect(slices.Chunk(m[:len(m)-1], 1))
	}
	for _, part := range parts {
		stands(t, what, s, states[0])
		takes(t, what, s, space, part)
	}
	stands(t, what, s, states[0])
	takes(t, what, s, space, m[len(m)-1:], outs...)
	stands(t, what, s, states[1])
	takes(t, what, s, space, nil)
	stands(t, what, s, states[1])
}

// P16.2, P16.3: what a client says to what the server says, message by message, whole, and in pieces, and how it stands.
func TestClient(t *testing.T) {
	r := rand.New(rand.NewSource(1608))
	for _, p := range couples(r) {
		y := tell(p.client, p.server)
		states := clientStates(y, p.server.Params)
		client, _, _ := both(t, p)
		stands(t, p.what, client, states[0])
		upTo(t, p, y, client, 1+len(y.flight))
		for range 3 {
			client, _, _ = both(t, p)
			piecemeal(t, p.what, r, client, 0, y.answer, states[:2])
			for i, m := range y.flight {
				var outs []api.Out
				if i == len(y.flight)-1 {
					outs = []api.Out{{Space: 1, Data: y.last}}
				}
				piecemeal(t, p.what, r, client, 1, m, states[1+i:], outs...)
			}
		}
	}
}

// P16.2: several messages at once, cut anywhere, are looked at one by one.
func TestCut(t *testing.T) {
	r := rand.New(rand.NewSource(1609))
	for _, p := range couples(r) {
		y := tell(p.client, p.server)
		states := clientStates(y, p.server.Params)
		for i := range 6 {
			client, _, _ := both(t, p)
			takes(t, p.what, client, 0, y.answer)
			parts := cuts(r, y.all())
			if i == 0 {
				parts = [][]byte{y.all()}
			}
			var outs []api.Out
			at := 0
			for _, part := range parts {
				more, e := client.Take(1, part)
				if e != api.OK {
					t.Fatalf("%s: error %d", p.what, e)
				}
				outs = append(outs, more...)
				at += len(part)
				stands(t, p.what, client, states[1+whole(y.flight, at)])
			}
			if !sameOuts(outs, []api.Out{{Space: 1, Data: y.last}}) {
				t.Errorf("%s: %x", p.what, outs)
			}
		}
	}
}

// whole: how many messages so many bytes hold.
func whole(list [][]byte, n int) int {
	for i, m := range list {
		if n -= len(m); n < 0 {
			return i
		}
	}
	return len(list)
}

// P16.2: what was left over of a space has nothing to do with another space.
func TestSpaces(t *testing.T) {
	for _, p := range couples(rand.New(rand.NewSource(1610))) {
		y := tell(p.client, p.server)
		client, _, _ := both(t, p)
		first := y.flight[0]
		takes(t, p.what, client, 2, []byte{1})
		takes(t, p.what, client, 1, first[:len(first)-1])
		takes(t, p.what, client, 0, y.answer[:10])
		takes(t, p.what, client, 2, []byte{0, 255})
		takes(t, p.what, client, 0, y.answer[10:])
		takes(t, p.what, client, 0, []byte{1, 0, 0})
		rest := bytes.Join(y.flight, nil)[len(first)-1:]
		takes(t, p.what, client, 1, rest, api.Out{Space: 1, Data: y.last})
		server := made(t, p.server)
		takes(t, p.what, server, 1, y.last[:20])
		takes(t, p.what, server, 2, []byte{1, 2, 3})
		takes(t, p.what, server, 0, y.hello, api.Out{Space: 0, Data: y.answer}, api.Out{Space: 1, Data: y.all()})
		takes(t, p.what, server, 1, y.last[20:])
		if !client.Done() || !server.Done() {
			t.Errorf("%s: not done", p.what)
		}
	}
}

// meet: hands each what the other one sends, through a change, as long as there is anything, in pieces or not.
func meet(r *rand.Rand, p couple, change func(toServer bool, space int, b []byte) []byte) (client, server *Shake) {
	client, _ = New(p.client)
	server, _ = New(p.server)
	outs, toServer := client.Start(), true
	for len(outs) > 0 {
		var answers []api.Out
		for _, o := range outs {
			parts := [][]byte{o.Data}
			if change != nil {
				parts[0] = change(toServer, o.Space, bytes.Clone(o.Data))
			}
			if r.Intn(2) == 0 {
				parts = cuts(r, parts[0])
			}
			to := client
			if toServer {
				to = server
			}
			for _, part := range parts {
				more, _ := to.Take(o.Space, part)
				answers = append(answers, more...)
			}
		}
		outs, toServer = answers, !toServer
	}
	return client, server
}

// P16.4: two honestly configured are both done, with one binding, each other's secrets and parameters.
func TestMeet(t *testing.T) {
	r := rand.New(rand.NewSource(1611))
	for _, p := range couples(r) {
		client, server := meet(r, p, nil)
		c, s := ask(client), ask(server)
		if !c.done || !s.done || !c.has || !s.has || c.binding != s.binding || c.psk != s.psk {
			t.Errorf("%s: %+v, %+v", p.what, c, s)
		}
		if !c.known || !s.known || c.peer != p.server.Params || s.peer != p.client.Params {
			t.Errorf("%s: %+v, %+v", p.what, c, s)
		}
		for i := range api.Spaces {
			if c.there[i] != (i > 0) || s.there[i] != (i > 0) || c.keys[i].Read != s.keys[i].Write || c.keys[i].Write != s.keys[i].Read {
				t.Errorf("%s: space %d: %+v, %+v", p.what, i, c, s)
			}
			if i > 0 && c.keys[i].Read == c.keys[i].Write {
				t.Errorf("%s: space %d: one secret for both", p.what, i)
			}
		}
		if c.keys[1] == c.keys[2] {
			t.Errorf("%s: both spaces have the same secrets", p.what)
		}
	}
}

// P16.4: of whatever one hears a bit is turned: it isn't done, nor are both.
func TestTurned(t *testing.T) {
	t.Parallel()
	r := rand.New(rand.NewSource(1612))
	list := couples(r)
	for _, i := range []int{0, 3, 9} {
		p := list[i]
		y := tell(p.client, p.server)
		var wait sync.WaitGroup
		for _, way := range []struct {
			toServer bool
			space, n int
		}{{true, 0, len(y.hello)}, {false, 0, len(y.answer)}, {false, 1, len(y.all())}, {true, 1, len(y.last)}} {
			seed := r.Int63()
			wait.Go(func() {
				r := rand.New(rand.NewSource(seed))
				for at := range way.n {
					bit := byte(1) << r.Intn(8)
					hit := false
					client, server := meet(r, p, func(toServer bool, space int, b []byte) []byte {
						if toServer == way.toServer && space == way.space {
							b[at] ^= bit
							hit = true
						}
						return b
					})
					if hearer := map[bool]*Shake{false: client, true: server}[way.toServer]; !hit || hearer.Done() || client.Done() && server.Done() {
						t.Errorf("%s: byte %d, bit %d of %+v: %v, %v", p.what, at, bit, way, client.Done(), server.Done())
					}
				}
			})
		}
		wait.Wait()
	}
}

// P16.4: all bits of a first message's kind and length.
func TestTurnedAhead(t *testing.T) {
	r := rand.New(rand.NewSource(1613))
	p := couples(r)[3]
	for _, toServer := range []bool{false, true} {
		for space := range 2 {
			for i := range 32 {
				client, server := meet(r, p, func(to bool, in int, b []byte) []byte {
					if to == toServer && in == space {
						b[i/8] ^= 1 << (i % 8)
					}
					return b
				})
				if client.Done() && server.Done() {
					t.Errorf("bit %d in space %d: done", i, space)
				}
			}
		}
	}
}

// P16.4: bytes that are left out, doubled, or put between.
func TestOtherBytes(t *testing.T) {
	t.Parallel()
	r := rand.New(rand.NewSource(1614))
	list := couples(r)
	for range 300 {
		p := list[[]int{0, 3}[r.Intn(2)]]
		toServer, space, way := r.Intn(2) == 0, r.Intn(2), r.Intn(4)
		behind := false
		client, server := meet(r, p, func(to bool, in int, b []byte) []byte {
			if to != toServer || in != space {
				return b
			}
			other := otherBytes(r, way, b)
			behind = bytes.HasPrefix(other, b)
			return other
		})
		// What stands behind all that is awaited comes too late.
		if client.Done() && server.Done() && !behind {
			t.Errorf("done with other bytes: to the server %v, space %d, way %d", toServer, space, way)
		}
	}
}

// otherBytes: of these, in one of four ways.
func otherBytes(r *rand.Rand, way int, b []byte) []byte {
	at := r.Intn(len(b))
	part := bytes.Clone(b[at : at+1+r.Intn(len(b)-at)])
	switch way {
	case 0:
		return slices.Delete(bytes.Clone(b), at, at+len(part))
	case 1:
		return slices.Insert(bytes.Clone(b), at, part...)
	case 2:
		return slices.Insert(bytes.Clone(b), at, messageModel(kinds()[r.Intn(len(kinds()))], part)...)
	}
	return b[:at]
}

// P16.4, P4: a client isn't done with whom it doesn't trust, nor with whom has another key.
func TestStrangers(t *testing.T) {
	r := rand.New(rand.NewSource(1615))
	other := chanceKey(r)
	with := func(c, s *Config) {
		c.PskName, c.Psk, s.PskName, s.Psk = []byte("n"), []byte("k"), []byte("n"), []byte("k")
	}
	for what, change := range map[string]func(c, s *Config){
		"signed by another":       func(c, s *Config) { s.Cert = certModel(other, "server", s.Cert.Key) },
		"of another name":         func(c, s *Config) { s.Cert = certModel(trusted, "another", s.Cert.Key) },
		"another wanted":          func(c, s *Config) { c.Name = "serve" },
		"another trusted":         func(c, s *Config) { c.Trust[0]++ },
		"of another key":          func(c, s *Config) { s.Sign = other },
		"of no name":              func(c, s *Config) { s.Cert.Name = "" },
		"of no name, none wanted": func(c, s *Config) { s.Cert.Name, c.Name = "", "" },
		"none wanted":             func(c, s *Config) { c.Name = "" },
		"another key":             func(c, s *Config) { with(c, s); s.Psk = []byte("l") },
		"another name, no cert":   func(c, s *Config) { with(c, s); s.PskName, s.Cert = []byte("m"), api.Cert{} },
		"another name, no name":   func(c, s *Config) { with(c, s); s.PskName, c.Name = []byte("m"), "" },
	} {
		p := couple{what: what}
		p.client, p.server = honest(r)
		change(&p.client, &p.server)
		if client, server := meet(r, p, nil); client.Done() || server.Done() {
			t.Errorf("%s: %v, %v", what, client.Done(), server.Done())
		}
	}
}

// R7: a nil handshake does nothing.
func TestNil(t *testing.T) {
	var s *Shake
	stands(t, "nil", s, state{})
	if outs := s.Start(); len(outs) > 0 {
		t.Errorf("Start: %v", outs)
	}
	for _, space := range []int{0, 1, 2, -1, 3} {
		for _, b := range [][]byte{nil, {}, {1, 0, 0, 0}, {1, 255, 0, 0}} {
			if outs, e := s.Take(space, b); e != api.ErrNil || len(outs) > 0 {
				t.Errorf("Take: %v, error %d", outs, e)
			}
		}
	}
}

// P1: one that wasn't made by New is a client's that brings nothing along.
func TestUnmade(t *testing.T) {
	s, want := new(Shake), made(t, Config{})
	stands(t, "unmade", s, state{})
	if outs := s.Start(); !sameOuts(outs, want.Start()) {
		t.Errorf("Start: %v", outs)
	}
	stands(t, "unmade", s, state{})
	ends(t, "unmade", s, 0, messageModel(api.MAnswer, shareModel(api.Key{1}), shareModel(api.Key{1}), []byte{0}), api.ErrPsk)
	ends(t, "unmade, not begun", new(Shake), 0, messageModel(api.MAnswer), api.ErrState)
}

// scribble: other bytes over these, their spare room too.
func scribble(b []byte) {
	b = b[:cap(b)]
	for i := range b {
		b[i] ^= 0x55
	}
}

// P16.1, R6: what New is handed stays as it was, and isn't kept.
func TestConfigMemory(t *testing.T) {
	r := rand.New(rand.NewSource(1616))
	p := couples(r)[3]
	y := tell(p.client, p.server)
	for _, c := range []*Config{&p.client, &p.server} {
		room := append(append(chance(r, 3), c.PskName...), chance(r, 9)...)
		c.PskName = room[3 : 3+len(c.PskName)]
		more := append(append(chance(r, 3), c.Psk...), chance(r, 9)...)
		c.Psk = more[3 : 3+len(c.Psk)]
		before := [][]byte{bytes.Clone(room), bytes.Clone(more)}
		s := made(t, *c)
		scribble(room)
		scribble(more)
		if c.Server {
			takes(t, "server", s, 0, y.hello, api.Out{Space: 0, Data: y.answer}, api.Out{Space: 1, Data: y.all()})
			takes(t, "server", s, 1, y.last)
		} else if outs := s.Start(); !sameOuts(outs, []api.Out{{Space: 0, Data: y.hello}}) {
			t.Errorf("Start: %x", outs)
		} else {
			upTo(t, p, y, s, 1+len(y.flight))
		}
		scribble(room)
		scribble(more)
		if !bytes.Equal(room, before[0]) || !bytes.Equal(more, before[1]) {
			t.Error("New or a call behind it has changed what New was handed")
		}
	}
}

// P16.2, R6: bytes that are handed in stay as they were, and aren't kept; answers are new memory.
func TestMemory(t *testing.T) {
	r := rand.New(rand.NewSource(1617))
	for _, p := range couples(r) {
		y := tell(p.client, p.server)
		client, server, hello := both(t, p)
		scribble(hello)
		hand := func(s *Shake, space int, b []byte, want ...api.Out) {
			t.Helper()
			var outs []api.Out
			for _, part := range cuts(r, b) {
				room := append(append(chance(r, 7), part...), chance(r, 7)...)
				before := bytes.Clone(room)
				more, e := s.Take(space, room[7:7+len(part)])
				if e != api.OK || !bytes.Equal(room, before) {
					t.Fatalf("%s: error %d, or its argument is changed", p.what, e)
				}
				scribble(room)
				outs = append(outs, more...)
			}
			if !sameOuts(outs, want) {
				t.Fatalf("%s: %x, not %x", p.what, outs, want)
			}
			for i := range outs {
				scribble(outs[i].Data)
				for j := range i {
					scribble(outs[j].Data)
				}
				if rest := i + 1; !sameOuts(outs[rest:], want[rest:]) {
					t.Fatalf("%s: two lists of one answer share memory", p.what)
				}
				for j := range i {
					scribble(outs[j].Data)
				}
			}
		}
		hand(server, 0, y.hello, api.Out{Space: 0, Data: y.answer}, api.Out{Space: 1, Data: y.all()})
		hand(client, 0, y.answer)
		hand(client, 1, y.all(), api.Out{Space: 1, Data: y.last})
		hand(server, 1, y.last)
		stands(t, p.what, client, clientStates(y, p.server.Params)[1+len(y.flight)])
		stands(t, p.what, server, serverStates(y, p.client.Params)[2])
	}
}

// R8: a handshake goes by what it keeps alone: many at once, of the same configs, say the same; and asking changes nothing, so that several may ask at once.
func TestTogether(t *testing.T) {
	r := rand.New(rand.NewSource(1618))
	list := couples(r)
	shared := made(t, list[3].server)
	y := tell(list[3].client, list[3].server)
	takes(t, "shared", shared, 0, y.hello, api.Out{Space: 0, Data: y.answer}, api.Out{Space: 1, Data: y.all()})
	want := serverStates(y, list[3].client.Params)[1]
	var wait sync.WaitGroup
	for i := range 8 {
		wait.Go(func() {
			r := rand.New(rand.NewSource(int64(1619 + i)))
			for _, p := range list {
				y := tell(p.client, p.server)
				client, server := meet(r, p, nil)
				if ask(client) != clientStates(y, p.server.Params)[1+len(y.flight)] || ask(server) != serverStates(y, p.client.Params)[2] {
					t.Errorf("%s: another handshake", p.what)
				}
				if ask(shared) != want {
					t.Error("a shared one changes")
				}
			}
		})
	}
	wait.Wait()
}

// R8: the same calls answer the same.
func TestAgain(t *testing.T) {
	r := rand.New(rand.NewSource(1627))
	for _, p := range couples(r) {
		c1, s1 := meet(r, p, nil)
		c2, s2 := meet(r, p, nil)
		if ask(c1) != ask(c2) || ask(s1) != ask(s2) {
			t.Errorf("%s: another handshake", p.what)
		}
	}
}

// P1: any bytes, in any space, in any order, end, and nothing panics; beside an error there is nothing (R3).
func TestAny(t *testing.T) {
	r := rand.New(rand.NewSource(1628))
	list := couples(r)
	for range 400 {
		p := list[r.Intn(len(list))]
		y := tell(p.client, p.server)
		said := append([][]byte{y.hello, y.answer, y.last, y.all()}, y.flight...)
		s, _ := New([]Config{p.client, p.server}[r.Intn(2)])
		s.Start()
		for range 8 {
			b := bytes.Clone(said[r.Intn(len(said))])
			for range r.Intn(3) {
				b[r.Intn(len(b))] ^= 1 << r.Intn(8)
			}
			if r.Intn(4) == 0 {
				b = chance(r, r.Intn(50))
			}
			space := []int{0, 0, 0, 1, 1, 1, 2, -1, 3, math.MinInt, math.MaxInt}[r.Intn(11)]
			outs, e := s.Take(space, b)
			if e != api.OK && len(outs) > 0 {
				t.Fatalf("%x beside error %d", outs, e)
			}
			ask(s)
		}
	}
}
