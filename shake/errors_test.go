package shake

import (
	"bytes"
	"math"
	"math/rand"
	"slices"
	"testing"

	"skiff/api"
)

// small are places that nothing is shared with, by chapter 5: noughts, and others of too small an order.
var small = [][]byte{
	make([]byte, 32),
	slices.Concat([]byte{1}, make([]byte, 31)),
	slices.Concat([]byte{0xec}, bytes.Repeat([]byte{0xff}, 30), []byte{0x7f}),
	slices.Concat([]byte{0xed}, bytes.Repeat([]byte{0xff}, 30), []byte{0x7f}),
	slices.Concat([]byte{0xee}, bytes.Repeat([]byte{0xff}, 30), []byte{0x7f}),
	slices.Concat(make([]byte, 31), []byte{0x80}),
}

// pick: the couple of a description.
func pick(t *testing.T, seed int64, what string) couple {
	t.Helper()
	for _, p := range couples(rand.New(rand.NewSource(seed))) {
		if p.what == what {
			return p
		}
	}
	t.Fatalf("no couple with %s", what)
	return couple{}
}

// full: a message's bytes handed over at once, and with others behind it, that end it with this error.
func full(t *testing.T, what string, make func() *Shake, space int, m []byte, want api.Errno) {
	t.Helper()
	ends(t, what, make(), space, m, want)
	ends(t, what+", more behind it", make(), space, append(bytes.Clone(m), 1, 255, 255, 255, 0), want)
	s := make()
	before := ask(s)
	takes(t, what+", but for a byte", s, space, m[:len(m)-1])
	stands(t, what+", but for a byte", s, before)
	ends(t, what+", its last byte", s, space, m[len(m)-1:], want)
}

// server: that a server ends with an error when it hears a message in space 0.
func server(t *testing.T, what string, c Config, m []byte, want api.Errno) {
	t.Helper()
	full(t, what, func() *Shake { return made(t, c) }, 0, m, want)
}

// client: that a client ends with an error at a message of a server that says something else, the number of which it is, 0 the MAnswer.
func client(t *testing.T, what string, p couple, number int, want api.Errno, turns ...turn) {
	t.Helper()
	right, y := tell(p.client, p.server), tell(p.client, p.server, turns...)
	said := append([][]byte{y.answer}, y.flight...)
	if number > 0 && !bytes.Equal(right.answer, y.answer) {
		t.Fatalf("%s: other than it should be", what)
	}
	make := func() *Shake {
		s, _, _ := both(t, p)
		for i, m := range said[:number] {
			takes(t, what, s, min(i, 1), m)
		}
		return s
	}
	full(t, what, make, min(number, 1), said[number], want)
}

// instead: other bytes of a kind.
func instead(kind uint8, other func(b []byte) []byte) turn {
	return func(k uint8, b []byte) []byte {
		if k != kind {
			return b
		}
		return other(bytes.Clone(b))
	}
}

// cut: the first so many of bytes.
func cut(n int) func(b []byte) []byte { return func(b []byte) []byte { return b[:n] } }

// more: bytes behind.
func more(n int) func(b []byte) []byte {
	return func(b []byte) []byte { return append(b, make([]byte, n)...) }
}

// bit: bytes with one turned.
func bit(i int) func(b []byte) []byte {
	return func(b []byte) []byte {
		b[i/8] ^= 1 << (i % 8)
		return b
	}
}

// P16.2: a space that there isn't, ErrRange, which ends nothing, and changes nothing.
func TestRange(t *testing.T) {
	for _, p := range couples(rand.New(rand.NewSource(1641))) {
		y := tell(p.client, p.server)
		client, server := made(t, p.client), made(t, p.server)
		out := func(s *Shake) {
			t.Helper()
			before := ask(s)
			for _, space := range []int{-1, 3, 4, math.MinInt, math.MaxInt, 256, 257, 1 << 32, 1<<32 + 1} {
				for _, b := range [][]byte{nil, {1}, {1, 255, 255, 255}, y.hello, y.answer, y.last} {
					if outs, e := s.Take(space, b); e != api.ErrRange || len(outs) > 0 {
						t.Fatalf("%s: Take(%d): %x, error %d", p.what, space, outs, e)
					}
				}
			}
			stands(t, p.what, s, before)
		}
		out(client)
		client.Start()
		out(client)
		out(server)
		takes(t, p.what, server, 0, y.hello[:5])
		out(server)
		takes(t, p.what, server, 0, y.hello[5:], api.Out{Space: 0, Data: y.answer}, api.Out{Space: 1, Data: y.all()})
		out(server)
		takes(t, p.what, client, 0, y.answer)
		out(client)
		takes(t, p.what, client, 1, y.all(), api.Out{Space: 1, Data: y.last})
		out(client)
		takes(t, p.what, server, 1, y.last)
		out(server)
		ends(t, p.what, server, 0, []byte{1, 255, 255, 255}, api.ErrLong)
	}
}

// steps: a client and a server at each of their steps, each of them new, the space and the kind that it awaits (a kind above 255: nothing).
func steps(t *testing.T, p couple, each func(what string, make func() *Shake, space int, kind uint)) {
	y := tell(p.client, p.server)
	clientAt := func(n int) func() *Shake {
		return func() *Shake {
			s, _, _ := both(t, p)
			upTo(t, p, y, s, n)
			return s
		}
	}
	serverAt := func(n int) func() *Shake {
		return func() *Shake {
			s := made(t, p.server)
			for i, m := range [][]byte{y.hello, y.last}[:n] {
				if _, e := s.Take(i, m); e != api.OK {
					t.Fatalf("error %d", e)
				}
			}
			return s
		}
	}
	each("a client that hasn't begun", func() *Shake { return made(t, p.client) }, -1, 256)
	each("a client", clientAt(0), 0, api.MAnswer)
	for i, m := range y.flight {
		each("a client", clientAt(i+1), 1, uint(m[0]))
	}
	each("a client that is done", clientAt(1+len(y.flight)), -1, 256)
	each("a server", serverAt(0), 0, api.MHello)
	each("a server", serverAt(1), 1, api.MFinished)
	each("a server that is done", serverAt(2), -1, 256)
}

// P16.2: messages that aren't awaited, of any kind, in any space: ErrState, as soon as they are whole.
func TestState(t *testing.T) {
	t.Parallel()
	r := rand.New(rand.NewSource(1642))
	for _, what := range []string{"a certificate", "a key", "a key of the client's"} {
		p := pick(t, 1643, what)
		y := tell(p.client, p.server)
		real := map[uint8][]byte{api.MHello: y.hello, api.MAnswer: y.answer, api.MFinished: y.last}
		for _, m := range y.flight[:len(y.flight)-1] {
			real[m[0]] = m
		}
		steps(t, p, func(what string, make func() *Shake, space int, kind uint) {
			for in := range api.Spaces {
				for _, k := range kinds() {
					if in == space && uint(k) == kind {
						continue
					}
					m := messageModel(k, chance(r, r.Intn(60)))
					if r.Intn(2) == 0 && real[k] != nil {
						m = real[k]
					}
					ends(t, what, make(), in, m, api.ErrState)
					s := make()
					before := ask(s)
					takes(t, what, s, in, m[:len(m)-1])
					stands(t, what, s, before)
					ends(t, what, s, in, m[len(m)-1:], api.ErrState)
				}
			}
		})
	}
}

// P16.2: hello.Take's error: a message that says that it is too long, in any space, of any kind, ahead of whether it is awaited.
func TestLong(t *testing.T) {
	t.Parallel()
	p := pick(t, 1644, "a certificate")
	steps(t, p, func(what string, make func() *Shake, space int, kind uint) {
		for in := range api.Spaces {
			for _, k := range []uint8{0, 1, 2, 8, 11, 15, 20, 255} {
				for _, size := range [][]byte{{0, 16, 1}, {1, 0, 0}, {255, 255, 255}} {
					s := make()
					takes(t, what, s, in, []byte{k})
					takes(t, what, s, in, size[:2])
					ends(t, what, s, in, size[2:], api.ErrLong)
				}
				s := make()
				takes(t, what, s, in, append([]byte{k, 0, 16, 0}, bytes.Repeat([]byte{7}, 4095)...))
			}
		}
	})
}

// P16.2: behind a message that is awaited, one that isn't: an error, and nothing is answered.
func TestBehind(t *testing.T) {
	for _, p := range couples(rand.New(rand.NewSource(1645))) {
		y := tell(p.client, p.server)
		for tail, want := range map[string]api.Errno{"\x01\x00\x00\x00": api.ErrState, "\x01\xff\x00\x00": api.ErrLong} {
			for _, s := range []struct {
				make  func() *Shake
				space int
				m     []byte
			}{
				{func() *Shake { return made(t, p.server) }, 0, y.hello},
				{func() *Shake { s, _, _ := both(t, p); return s }, 0, y.answer},
				{func() *Shake { s, _, _ := both(t, p); takes(t, p.what, s, 0, y.answer); return s }, 1, y.all()},
			} {
				if outs, e := s.make().Take(s.space, append(bytes.Clone(s.m), tail...)); e != want || len(outs) > 0 {
					t.Errorf("%s: %x, error %d, not %d", p.what, outs, e, want)
				}
			}
		}
	}
}

// P16.2: a message's bytes that come ahead of their time.
func TestEarly(t *testing.T) {
	for _, p := range couples(rand.New(rand.NewSource(1646))) {
		y := tell(p.client, p.server)
		s, _, _ := both(t, p)
		ends(t, p.what, s, 1, y.all(), api.ErrState)
		ends(t, p.what, made(t, p.server), 1, y.last, api.ErrState)
		s, _, _ = both(t, p)
		takes(t, p.what, s, 0, y.answer)
		ends(t, p.what, s, 0, y.answer, api.ErrState)
	}
}

// P16.2: a server's ErrHello, at an MHello that can't be read.
func TestServerHello(t *testing.T) {
	r := rand.New(rand.NewSource(1647))
	for _, what := range []string{"a certificate", "a key", "a key of a long name", "keys of other names"} {
		p := pick(t, 1648, what)
		body := tell(p.client, p.server).hello[4:]
		for n := range body {
			server(t, what+", cut", p.server, messageModel(api.MHello, body[:n]), api.ErrHello)
		}
		for _, n := range []int{1, 2, 32, 4096 - len(body)} {
			server(t, what+", longer", p.server, messageModel(api.MHello, body, chance(r, n)), api.ErrHello)
		}
		// One more at the name's length: too few bytes, or a name that is too long.
		at := 64 + len(paramsModel(p.client.Params))
		other := bytes.Clone(body)
		other[at]++
		server(t, what+", another length", p.server, messageModel(api.MHello, other), api.ErrHello)
		long := slices.Concat(body[:at], []byte{65}, chance(r, 65+32))
		server(t, what+", a name that is too long", p.server, messageModel(api.MHello, long), api.ErrHello)
		server(t, what+", of a server that has nothing", Config{Server: true}, messageModel(api.MHello, long), api.ErrHello)
	}
}

// P16.2: a server's ErrBinder, if a bit of the binder is turned, or it is of another key, or of other bytes.
func TestServerBinder(t *testing.T) {
	for _, what := range []string{"a key", "a key alone", "a key, and a certificate that can't be sent", "a key of a long name"} {
		p := pick(t, 1649, what)
		hello := tell(p.client, p.server).hello
		ahead := hello[:len(hello)-32]
		for i := range 256 {
			m := bytes.Clone(hello)
			m[len(ahead)+i/8] ^= 1 << (i % 8)
			server(t, what, p.server, m, api.ErrBinder)
		}
		for _, binder := range [][]byte{
			make([]byte, 32),
			binderModel(append(bytes.Clone(p.server.Psk), 0), ahead),
			binderModel(nil, ahead),
			binderModel(p.server.PskName, ahead),
			binderModel(p.server.Psk, ahead[4:]),
			binderModel(p.server.Psk, nil),
			binderModel(p.server.Psk, hello),
			binderModel(p.server.Psk, append(bytes.Clone(ahead), make([]byte, 32)...)),
		} {
			server(t, what, p.server, append(bytes.Clone(ahead), binder...), api.ErrBinder)
		}
		// Anything else that is turned makes the binder wrong, if it is a hello with this name still.
		for i := 4; i < len(ahead)-len(p.client.PskName)-1; i += 5 {
			m := bytes.Clone(hello)
			m[i] ^= 1
			if _, e := made(t, p.server).Take(0, m); e != api.ErrBinder && e != api.ErrHello {
				t.Errorf("%s: byte %d turned: error %d", what, i, e)
			}
		}
		// Ahead of ErrPoint.
		for _, share := range small {
			m := helloModel(p.client, share)
			m[len(m)-1]++
			server(t, what+", and no place", p.server, m, api.ErrBinder)
		}
	}
}

// P16.2: a server's ErrPsk, if it is without, and it has no certificate; ahead of ErrPoint.
func TestServerPsk(t *testing.T) {
	for _, what := range []string{"a certificate", "a key of the client's", "a key of the server's", "keys of other names", "keys of names of which one begins the other"} {
		p := pick(t, 1650, what)
		for range 2 {
			p.server.Cert.Name = ""
			server(t, what, p.server, tell(p.client, p.server).hello, api.ErrPsk)
			for _, share := range small {
				server(t, what+", and no place", p.server, helloModel(p.client, share), api.ErrPsk)
			}
			p.server.Cert = api.Cert{}
		}
	}
}

// P16.2: a server's ErrPoint, with a key shared beforehand and without; ahead of ErrCert.
func TestServerPoint(t *testing.T) {
	for _, p := range couples(rand.New(rand.NewSource(1651))) {
		for _, share := range small {
			m := helloModel(p.client, share)
			server(t, p.what, p.server, m, api.ErrPoint)
			other := p.server
			other.Cert.Name = string(make([]byte, 33))
			server(t, p.what+", and no right certificate", other, m, api.ErrPoint)
		}
	}
}

// P16.2: a server's ErrCert, if its certificate can't be sent; with a key shared beforehand it needn't be.
func TestServerCert(t *testing.T) {
	t.Parallel()
	for _, p := range couples(rand.New(rand.NewSource(1652))) {
		for _, n := range []int{33, 34, 255, 256, 257, 5000} {
			p.server.Cert.Name = string(make([]byte, n))
			y := tell(p.client, p.server)
			if y.psk {
				takes(t, p.what, made(t, p.server), 0, y.hello, api.Out{Space: 0, Data: y.answer}, api.Out{Space: 1, Data: y.all()})
			} else {
				server(t, p.what, p.server, y.hello, api.ErrCert)
			}
		}
		for _, n := range []int{1, 2, 31, 32} {
			p.server.Cert.Name = string(make([]byte, n))
			y := tell(p.client, p.server)
			takes(t, p.what, made(t, p.server), 0, y.hello, api.Out{Space: 0, Data: y.answer}, api.Out{Space: 1, Data: y.all()})
		}
	}
}

// P16.2: a client's ErrHello, at an MAnswer that can't be read; ahead of ErrPsk and ErrPoint.
func TestClientHello(t *testing.T) {
	t.Parallel()
	for _, p := range couples(rand.New(rand.NewSource(1653))) {
		for n := range 65 {
			client(t, p.what, p, 0, api.ErrHello, instead(api.MAnswer, cut(n)))
		}
		for _, n := range []int{1, 2, 32, 4096 - 65} {
			client(t, p.what, p, 0, api.ErrHello, instead(api.MAnswer, more(n)))
		}
		for _, last := range []byte{2, 3, 128, 255} {
			turned := func(b []byte) []byte { return slices.Concat(b[:32], make([]byte, 32), []byte{last}) }
			client(t, p.what, p, 0, api.ErrHello, instead(api.MAnswer, turned))
		}
	}
}

// P16.2: a client's ErrPsk, if the MAnswer says with, and it has none, or without, and it wants no name; ahead of ErrPoint.
func TestClientPsk(t *testing.T) {
	for _, share := range [][]byte{nil, small[0], small[4]} {
		says := func(with byte) turn {
			return instead(api.MAnswer, func(b []byte) []byte {
				if share != nil {
					copy(b[32:], share)
				}
				b[64] = with
				return b
			})
		}
		for _, what := range []string{"a certificate", "a key of the server's"} {
			p := pick(t, 1654, what)
			client(t, what, p, 0, api.ErrPsk, says(1))
			p.client.Name = ""
			client(t, what+", none wanted", p, 0, api.ErrPsk, says(1))
			client(t, what+", none wanted", p, 0, api.ErrPsk, says(0))
		}
		client(t, "a key alone", pick(t, 1654, "a key alone"), 0, api.ErrPsk, says(0))
	}
}

// P16.2: a client takes either, if it has a key and wants a name, whatever it had hoped for.
func TestClientEither(t *testing.T) {
	p := pick(t, 1655, "a key")
	y := tell(p.client, p.server)
	for with := range byte(2) {
		s, _, _ := both(t, p)
		m := bytes.Clone(y.answer)
		m[len(m)-1] = with
		takes(t, "either", s, 0, m)
		takes(t, "either", s, 1, y.flight[0])
		if with == 1 {
			ends(t, "with", s, 1, messageModel(api.MCert), api.ErrState)
		} else {
			ends(t, "without", s, 1, messageModel(api.MFinished), api.ErrState)
		}
	}
}

// P16.2: a client's ErrPoint, with a key shared beforehand and without.
func TestClientPoint(t *testing.T) {
	for _, p := range couples(rand.New(rand.NewSource(1656))) {
		for _, share := range small {
			client(t, p.what, p, 0, api.ErrPoint, instead(api.MAnswer, func(b []byte) []byte {
				copy(b[32:], share)
				return b
			}))
		}
	}
}

// P16.2: a client's error of the MParams: the reader's.
func TestClientParams(t *testing.T) {
	t.Parallel()
	for _, p := range couples(rand.New(rand.NewSource(1657))) {
		for n := range len(paramsModel(p.server.Params)) {
			client(t, p.what, p, 1, api.ErrShort, instead(api.MParams, cut(n)))
		}
		for _, n := range []int{1, 2, 100} {
			client(t, p.what, p, 1, api.ErrRest, instead(api.MParams, more(n)))
		}
	}
}

// P16.2: a client's errors of the MCert: the reader's, ahead of ErrCert.
func TestClientCertRead(t *testing.T) {
	t.Parallel()
	p := pick(t, 1658, "a certificate")
	for _, wanted := range []string{"server", "another"} {
		p.client.Name = wanted
		for n := range 1 + 6 + 32 + 64 {
			client(t, "cut", p, 2, api.ErrShort, instead(api.MCert, cut(n)))
		}
		for _, n := range []int{1, 2, 100} {
			client(t, "longer", p, 2, api.ErrRest, instead(api.MCert, more(n)))
		}
		for _, size := range []byte{0, 33, 34, 64, 255} {
			client(t, "no right name", p, 2, api.ErrRange, instead(api.MCert, func(b []byte) []byte {
				return slices.Concat([]byte{size}, make([]byte, size), b[7:])
			}))
		}
	}
}

// P16.2: a client's ErrCert, if the name isn't the wanted one, or it isn't signed by whom it trusts.
func TestClientCert(t *testing.T) {
	t.Parallel()
	p := pick(t, 1659, "a certificate")
	for _, name := range []string{"serve", "server2", "Server", "\x00", "s", "servers of a rather long name .."} {
		p.server.Cert = certModel(trusted, name, publicModel(p.server.Sign))
		client(t, "another name", p, 2, api.ErrCert)
	}
	key := publicModel(p.server.Sign)
	for _, c := range []api.Cert{
		certModel(api.Key{1}, "server", key),
		certModel(p.server.Sign, "server", key),
		{Name: "server", Key: key},
		{Name: "server", Key: key, Sign: certModel(trusted, "another", key).Sign},
		{Name: "server", Key: key, Sign: certModel(trusted, "server", api.Key{}).Sign},
		{Name: "server", Key: key, Sign: [64]byte(proofModel(trusted, key[:], []byte("server")))},
		{Name: "server", Key: key, Sign: [64]byte(proofModel(trusted, []byte("skiff verify"), key[:], []byte("server")))},
	} {
		p.server.Cert = c
		client(t, "not vouched for", p, 2, api.ErrCert)
	}
	p.server.Cert = certModel(trusted, "server", key)
	for i := 0; i < 64*8; i += 7 {
		client(t, "a turned signature", p, 2, api.ErrCert, instead(api.MCert, bit(8*(1+6+32)+i)))
	}
	p.client.Trust = key
	client(t, "another trusted", p, 2, api.ErrCert)
	p.client.Name = "another"
	client(t, "another name, another trusted", p, 2, api.ErrCert)
}

// P16.2: a client's ErrVerify, if there aren't 64 bytes, or the certificate's key doesn't take them.
func TestClientVerify(t *testing.T) {
	t.Parallel()
	p := pick(t, 1660, "a certificate")
	for _, n := range []int{0, 1, 32, 63} {
		client(t, "too few", p, 3, api.ErrVerify, instead(api.MVerify, cut(n)))
	}
	for _, n := range []int{1, 2, 64, 4096 - 64} {
		client(t, "too many", p, 3, api.ErrVerify, instead(api.MVerify, more(n)))
	}
	for i := 0; i < 64*8; i += 7 {
		client(t, "a turned one", p, 3, api.ErrVerify, instead(api.MVerify, bit(i)))
	}
	y := tell(p.client, p.server)
	ahead := [][]byte{y.hello, y.answer, y.flight[0], y.flight[1]}
	sum := sumModel(ahead...)
	for what, b := range map[string][]byte{
		"by another":           proofModel(api.Key{1}, []byte("skiff verify"), sum),
		"by whom it trusts":    proofModel(trusted, []byte("skiff verify"), sum),
		"of no purpose":        proofModel(p.server.Sign, sum),
		"of another purpose":   proofModel(p.server.Sign, []byte("skiff cert"), sum),
		"without the cert":     proofModel(p.server.Sign, []byte("skiff verify"), sumModel(ahead[:3]...)),
		"without the hello":    proofModel(p.server.Sign, []byte("skiff verify"), sumModel(ahead[1:]...)),
		"of nothing":           proofModel(p.server.Sign, []byte("skiff verify")),
		"of the messages":      proofModel(p.server.Sign, []byte("skiff verify"), bytes.Join(ahead, nil)),
		"with noughts between": proofModel(p.server.Sign, []byte("skiff verify\x00"), sum),
	} {
		client(t, what, p, 3, api.ErrVerify, instead(api.MVerify, func([]byte) []byte { return b }))
	}
	right := proofModel(p.server.Sign, []byte("skiff verify"), sum)
	s, _, _ := both(t, p)
	upTo(t, p, y, s, 3)
	takes(t, "the right one", s, 1, messageModel(api.MVerify, right))
	p.server.Sign[0]++
	client(t, "of a certificate of another's key", p, 3, api.ErrVerify)
}

// P16.2: a client's and a server's ErrFinished, if it isn't just what it must be.
func TestFinished(t *testing.T) {
	t.Parallel()
	for _, what := range []string{"a certificate", "a key"} {
		p := pick(t, 1661, what)
		y := tell(p.client, p.server)
		last := len(y.flight)
		heard := func() *Shake {
			s := made(t, p.server)
			takes(t, what, s, 0, y.hello, api.Out{Space: 0, Data: y.answer}, api.Out{Space: 1, Data: y.all()})
			return s
		}
		wrong := func(other func(b []byte) []byte) {
			t.Helper()
			client(t, what, p, last, api.ErrFinished, instead(api.MFinished, other))
			full(t, what, heard, 1, messageModel(api.MFinished, other(bytes.Clone(y.last[4:]))), api.ErrFinished)
		}
		for i := range 32 {
			wrong(bit(8*i + i%8))
		}
		for _, n := range []int{0, 1, 31} {
			wrong(cut(n))
		}
		for _, n := range []int{1, 32, 4096 - 32} {
			wrong(more(n))
		}
		all := append([][]byte{y.hello, y.answer}, y.flight...)
		before := sumModel(all[:len(all)-1]...)
		for _, b := range [][]byte{
			make([]byte, 32),
			finishedModel(y.hs[0][:], before),
			finishedModel(y.hs[1][:], y.binding[:]),
			finishedModel(y.ap[0][:], y.binding[:]),
			finishedModel(y.ap[1][:], before),
			finishedModel(y.hs[1][:], sumModel(all[:len(all)-2]...)),
			finishedModel(y.hs[0][:], sumModel(append(all, y.last)...)),
			y.binding[:],
		} {
			wrong(func([]byte) []byte { return b })
		}
		client(t, what+", the client's", p, last, api.ErrFinished, instead(api.MFinished, func([]byte) []byte { return y.last[4:] }))
		full(t, what+", the server's", heard, 1, y.flight[last-1], api.ErrFinished)
	}
}
