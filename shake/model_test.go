package shake

import (
	"bytes"
	"crypto/ecdh"
	"crypto/ed25519"
	"crypto/hkdf"
	"crypto/hmac"
	"crypto/sha256"
	"encoding/binary"
	"math/rand"
	"slices"

	"skiff/api"
)

// chance: so many bytes by chance.
func chance(r *rand.Rand, n int) []byte {
	b := make([]byte, n)
	r.Read(b)
	return b
}

// chanceKey: one by chance.
func chanceKey(r *rand.Rand) api.Key { return api.Key(chance(r, 32)) }

// cuts: bytes in parts, cut by chance, some of them empty or nil.
func cuts(r *rand.Rand, b []byte) [][]byte {
	var parts [][]byte
	for len(b) > 0 {
		switch r.Intn(6) {
		case 0:
			parts = append(parts, nil)
		case 1:
			parts = append(parts, []byte{})
		}
		n := 1 + r.Intn(len(b))
		parts = append(parts, b[:n])
		b = b[n:]
	}
	return parts
}

// sumModel: of bytes, by the library.
func sumModel(b ...[]byte) []byte {
	sum := sha256.Sum256(bytes.Join(b, nil))
	return sum[:]
}

// signModel: of bytes, with a key, by the library.
func signModel(key, b []byte) []byte {
	h := hmac.New(sha256.New, key)
	h.Write(b)
	return h.Sum(nil)
}

// keyModel: out of a secret, for a label and a context, by the library.
func keyModel(secret []byte, label string, context []byte) []byte {
	info := "\x00\x20" + string([]byte{byte(6 + len(label))}) + "tls13 " + label + string([]byte{byte(len(context))}) + string(context)
	k, err := hkdf.Expand(sha256.New, secret, info, 32)
	if err != nil {
		panic(err)
	}
	return k
}

// firstModel: the first secret, of a key shared beforehand, or of nothing.
func firstModel(psk []byte) []byte {
	if len(psk) == 0 {
		psk = make([]byte, 32)
	}
	return signModel(make([]byte, 32), psk)
}

// nextModel: the next secret, with a key mixed in.
func nextModel(secret, k []byte) []byte {
	return signModel(keyModel(secret, "derived", sumModel()), k)
}

// finishedModel: that whoever knows a secret has seen messages of a sum.
func finishedModel(secret, sum []byte) []byte {
	return signModel(keyModel(secret, "finished", nil), sum)
}

// binderModel: of a key shared beforehand, of bytes.
func binderModel(psk, b []byte) []byte {
	return finishedModel(keyModel(firstModel(psk), "ext binder", sumModel()), sumModel(b))
}

// shareModel: what is told of a secret, by the library.
func shareModel(secret api.Key) []byte {
	k, err := ecdh.X25519().NewPrivateKey(secret[:])
	if err != nil {
		panic(err)
	}
	return k.PublicKey().Bytes()
}

// sharedModel: the key that two share, by the library.
func sharedModel(secret api.Key, share []byte) []byte {
	k, err := ecdh.X25519().NewPrivateKey(secret[:])
	if err != nil {
		panic(err)
	}
	p, err := ecdh.X25519().NewPublicKey(share)
	if err != nil {
		panic(err)
	}
	b, err := k.ECDH(p)
	if err != nil {
		panic(err)
	}
	return b
}

// publicModel: of a secret that signs, by the library.
func publicModel(secret api.Key) api.Key {
	return api.Key(ed25519.NewKeyFromSeed(secret[:]).Public().(ed25519.PublicKey))
}

// proofModel: bytes signed, by the library.
func proofModel(secret api.Key, b ...[]byte) []byte {
	return ed25519.Sign(ed25519.NewKeyFromSeed(secret[:]), bytes.Join(b, nil))
}

// certModel: a certificate, by chapter 14.
func certModel(secret api.Key, name string, key api.Key) api.Cert {
	return api.Cert{Name: name, Key: key, Sign: [64]byte(proofModel(secret, []byte("skiff cert"), key[:], []byte(name)))}
}

// messageModel: of a kind, by chapter 14.
func messageModel(kind uint8, b ...[]byte) []byte {
	body := bytes.Join(b, nil)
	return slices.Concat([]byte{kind, 0, byte(len(body) >> 8), byte(len(body))}, body)
}

// numberModel: a short number, by chapter 10.
func numberModel(n uint64) []byte {
	switch {
	case n < 1<<6:
		return []byte{byte(n)}
	case n < 1<<14:
		return binary.BigEndian.AppendUint16(nil, uint16(n)|1<<14)
	case n < 1<<30:
		return binary.BigEndian.AppendUint32(nil, uint32(n)|2<<30)
	}
	return binary.BigEndian.AppendUint64(nil, n|3<<62)
}

// paramsModel: parameters, by chapter 14.
func paramsModel(p api.Params) []byte {
	return slices.Concat(numberModel(p.Data), numberModel(p.Stream), numberModel(p.Streams), numberModel(p.Idle))
}

// helloModel: a client's first message, with any share.
func helloModel(c Config, share []byte) []byte {
	body := slices.Concat(c.Random[:], share, paramsModel(c.Params), []byte{byte(len(c.PskName))}, c.PskName)
	if len(c.PskName) == 0 {
		return messageModel(api.MHello, body)
	}
	m := messageModel(api.MHello, body, make([]byte, 32))
	ahead := m[:len(m)-32]
	return append(ahead, binderModel(c.Psk, ahead)...)
}

// story is all that two say, each message by itself, and what comes of it.
type story struct {
	psk           bool
	hello, answer []byte
	flight        [][]byte
	last          []byte
	hs, ap        [2]api.Key
	binding       api.Key
}

// all: what the server says in space 1, in one.
func (y story) all() []byte { return bytes.Join(y.flight, nil) }

// turn is what a server says instead of a message's bytes.
type turn func(kind uint8, body []byte) []byte

// tell: of a client and a server by the chapters' words; what the server says goes through turns, and whatever stands behind is right by what was said.
func tell(c, s Config, turns ...turn) story {
	y := story{psk: len(s.PskName) > 0 && bytes.Equal(s.PskName, c.PskName)}
	y.hello = helloModel(c, shareModel(c.Secret))
	messages := bytes.Clone(y.hello)
	say := func(kind uint8, body ...[]byte) []byte {
		b := bytes.Join(body, nil)
		for _, f := range turns {
			b = f(kind, b)
		}
		m := messageModel(kind, b)
		messages = append(messages, m...)
		return m
	}
	secret, with := firstModel(nil), []byte{0}
	if y.psk {
		secret, with = firstModel(s.Psk), []byte{1}
	}
	y.answer = say(api.MAnswer, s.Random[:], shareModel(s.Secret), with)
	secret = nextModel(secret, sharedModel(s.Secret, shareModel(c.Secret)))
	y.hs = trafficModel(secret, "hs", messages)
	y.flight = append(y.flight, say(api.MParams, paramsModel(s.Params)))
	if !y.psk {
		y.flight = append(y.flight, say(api.MCert, []byte{byte(len(s.Cert.Name))}, []byte(s.Cert.Name), s.Cert.Key[:], s.Cert.Sign[:]))
		y.flight = append(y.flight, say(api.MVerify, proofModel(s.Sign, []byte("skiff verify"), sumModel(messages))))
	}
	y.flight = append(y.flight, say(api.MFinished, finishedModel(y.hs[1][:], sumModel(messages))))
	y.binding = api.Key(sumModel(messages))
	y.ap = trafficModel(nextModel(secret, make([]byte, 32)), "ap", messages)
	y.last = messageModel(api.MFinished, finishedModel(y.hs[0][:], y.binding[:]))
	return y
}

// trafficModel: the client's secret and the server's.
func trafficModel(secret []byte, label string, messages []byte) [2]api.Key {
	of := func(whose string) api.Key {
		return api.Key(keyModel(secret, whose+" "+label+" traffic", sumModel(messages)))
	}
	return [2]api.Key{of("c"), of("s")}
}

// state is what a handshake answers when it is asked how it stands.
type state struct {
	done     bool
	peer     api.Params
	known    bool
	keys     [api.Spaces]api.Pair
	there    [api.Spaces]bool
	binding  api.Key
	psk, has bool
}

// ask: how a handshake stands.
func ask(s *Shake) state {
	var a state
	a.done = s.Done()
	a.peer, a.known = s.Peer()
	for i := range api.Spaces {
		a.keys[i], a.there[i] = s.Keys(i)
	}
	a.binding, a.psk, a.has = s.Binding()
	return a
}

// shake: with the secrets of space 1, of a side.
func (a state) shake(y story, server bool) state {
	a.there[api.SHandshake], a.keys[api.SHandshake] = true, pairModel(y.hs, server)
	return a
}

// data: with those of space 2, too.
func (a state) data(y story, server bool) state {
	a = a.shake(y, server)
	a.there[api.SData], a.keys[api.SData] = true, pairModel(y.ap, server)
	a.binding, a.psk, a.has = y.binding, y.psk, true
	return a
}

// pairModel: what it reads is the other one's.
func pairModel(k [2]api.Key, server bool) api.Pair {
	if server {
		return api.Pair{Read: k[0], Write: k[1]}
	}
	return api.Pair{Read: k[1], Write: k[0]}
}

// clientStates: of a client: at first, behind the MAnswer, and behind each message of space 1.
func clientStates(y story, p api.Params) []state {
	var a state
	list := []state{a}
	a = a.shake(y, false)
	list = append(list, a)
	a.peer, a.known = p, true
	for range len(y.flight) - 1 {
		list = append(list, a)
	}
	a = a.data(y, false)
	a.done = true
	return append(list, a)
}

// serverStates: of a server: at first, behind the MHello, and behind the client's MFinished.
func serverStates(y story, p api.Params) []state {
	a := state{peer: p, known: true}.data(y, true)
	b := a
	b.done = true
	return []state{{}, a, b}
}

// couple is a client and a server, and what they are.
type couple struct {
	what           string
	client, server Config
}

// trusted is the secret of whom the clients trust.
var trusted = api.Key{'t', 'r', 'u', 's', 't'}

// honest: a client and a server by chance, with a certificate that the client takes, and without keys shared beforehand.
func honest(r *rand.Rand) (client, server Config) {
	params := func() api.Params {
		size := func() uint64 { return r.Uint64() >> (2 + r.Intn(62)) }
		return api.Params{Data: size(), Stream: size(), Streams: size(), Idle: size()}
	}
	client = Config{Random: chanceKey(r), Secret: chanceKey(r), Params: params(), Trust: publicModel(trusted), Name: "server"}
	server = Config{Server: true, Random: chanceKey(r), Secret: chanceKey(r), Params: params(), Sign: chanceKey(r)}
	server.Cert = certModel(trusted, "server", publicModel(server.Sign))
	return client, server
}

// couples: of all sorts; all come to their end.
func couples(r *rand.Rand) []couple {
	var list []couple
	add := func(what string, change func(c, s *Config)) {
		c, s := honest(r)
		change(&c, &s)
		list = append(list, couple{what, c, s})
	}
	name, key := chance(r, 5), chance(r, 16)
	share := func(c *Config) { c.PskName, c.Psk = slices.Clone(name), slices.Clone(key) }
	add("a certificate", func(c, s *Config) {})
	add("a certificate of a long name", func(c, s *Config) {
		c.Name = "0123456789abcdef0123456789abcdef"
		s.Cert = certModel(trusted, c.Name, publicModel(s.Sign))
	})
	add("a certificate of a name of one byte, which isn't a text", func(c, s *Config) {
		c.Name = "\xff"
		s.Cert = certModel(trusted, c.Name, publicModel(s.Sign))
	})
	add("a key", func(c, s *Config) { share(c); share(s) })
	add("a key alone", func(c, s *Config) {
		share(c)
		share(s)
		c.Name, c.Trust, s.Cert, s.Sign = "", api.Key{}, api.Cert{}, api.Key{}
	})
	add("a key, and a certificate that can't be sent", func(c, s *Config) {
		share(c)
		share(s)
		s.Cert.Name = "0123456789abcdef0123456789abcdef+"
	})
	add("a key of a long name", func(c, s *Config) {
		c.PskName, c.Psk = chance(r, 64), chance(r, 300)
		s.PskName, s.Psk = c.PskName, c.Psk
	})
	add("a key of the client's", func(c, s *Config) { share(c) })
	add("a key of the server's", func(c, s *Config) { share(s) })
	add("keys of other names", func(c, s *Config) {
		share(c)
		share(s)
		s.PskName[4]++
	})
	add("keys of names of which one begins the other", func(c, s *Config) {
		share(c)
		share(s)
		s.PskName = s.PskName[:4]
	})
	add("the least parameters", func(c, s *Config) { c.Params, s.Params = api.Params{}, api.Params{} })
	add("the greatest parameters", func(c, s *Config) {
		c.Params = api.Params{Data: api.MaxVar, Stream: api.MaxVar, Streams: api.MaxVar, Idle: api.MaxVar}
		s.Params = c.Params
	})
	add("noughts", func(c, s *Config) {
		c.Random, c.Secret, s.Random, s.Secret = api.Key{}, api.Key{}, api.Key{}, api.Key{}
	})
	return list
}
