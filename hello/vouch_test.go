package hello

import (
	"crypto/ed25519"
	"math/rand"
	"slices"
	"strings"
	"sync"
	"testing"

	"skiff/api"
	"skiff/sign"
)

// textModel: what is signed, by the chapter's words.
func textModel(name string, key api.Key) []byte {
	return slices.Concat([]byte("skiff cert"), key[:], []byte(name))
}

// library: the library's signature of it.
func library(secret api.Key, name string, key api.Key) [64]byte {
	return [64]byte(ed25519.Sign(ed25519.NewKeyFromSeed(secret[:]), textModel(name, key)))
}

// takesCert: that Vouched says that.
func takesCert(t *testing.T, what string, public api.Key, c api.Cert, want bool) {
	t.Helper()
	if Vouched(public, c) != want {
		t.Errorf("%s: Vouched(%x, %v) isn't %v", what, public, c, want)
	}
}

// P14.4: names of every length that may be: the exact signature, against sign and the library, and Vouched takes it.
func TestVouch(t *testing.T) {
	r := rand.New(rand.NewSource(1461))
	for n := 1; n <= 32; n++ {
		for _, secret := range []api.Key{{}, chanceKey(r)} {
			name, key := string(chance(r, n)), chanceKey(r)
			c, e := Vouch(secret, name, key)
			want := api.Cert{Name: name, Key: key, Sign: sign.Sign(secret, textModel(name, key))}
			if e != api.OK || c != want || c.Sign != library(secret, name, key) {
				t.Fatalf("Vouch(%x, %x, %x): %v, %d, not %v", secret, name, key, c, e, want)
			}
			takesCert(t, "by Vouch", sign.Public(secret), c, true)
		}
	}
}

// P14.4: what is signed, byte by byte, written by hand.
func TestVouchText(t *testing.T) {
	text := unhex("736b696666 20 63657274 404142434445464748494a4b4c4d4e4f505152535455565758595a5b5c5d5e5f 736572766572")
	key := api.Key(rising(0x40, 32))
	c, e := Vouch(api.Key{7}, "server", key)
	want := api.Cert{Name: "server", Key: key, Sign: sign.Sign(api.Key{7}, text)}
	if e != api.OK || c != want {
		t.Errorf("Vouch: %v, %d, not %v", c, e, want)
	}
	takesCert(t, "by hand", sign.Public(api.Key{7}), want, true)
}

// P14.4, R3: names that may not be.
func TestVouchNames(t *testing.T) {
	for _, n := range []int{0, 33, 34, 64, 255, 256, 257, 288, 1 << 16} {
		if c, e := Vouch(api.Key{1}, strings.Repeat("n", n), api.Key{2}); e != api.ErrRange || c != (api.Cert{}) {
			t.Errorf("Vouch of a name of %d: %v, %d", n, c, e)
		}
	}
	if c, e := Vouch(api.Key{1}, strings.Repeat("\u00e9", 17), api.Key{2}); e != api.ErrRange || c != (api.Cert{}) {
		t.Errorf("Vouch of 17 letters of 34 bytes: %v, %d", c, e)
	}
}

// P14.4: Vouched asks for the signature alone: of names that Vouch refuses, too.
func TestVouchedNames(t *testing.T) {
	for _, n := range []int{0, 1, 32, 33, 64, 255, 256, 5000} {
		name, key := strings.Repeat("n", n), api.Key{2}
		c := api.Cert{Name: name, Key: key, Sign: sign.Sign(api.Key{1}, textModel(name, key))}
		takesCert(t, "signed by sign", sign.Public(api.Key{1}), c, true)
		c.Sign[40] ^= 1
		takesCert(t, "turned", sign.Public(api.Key{1}), c, false)
	}
	takesCert(t, "nothing", api.Key{}, api.Cert{}, sign.Verify(api.Key{}, textModel("", api.Key{}), [64]byte{}))
	takesCert(t, "nothing, of somebody", sign.Public(api.Key{1}), api.Cert{}, false)
}

// P14.4: another public key, another name, another key, another secret's signature, or a signature of another text.
func TestVouchedOther(t *testing.T) {
	r := rand.New(rand.NewSource(1462))
	secret, other, key := chanceKey(r), chanceKey(r), chanceKey(r)
	public := sign.Public(secret)
	c, _ := Vouch(secret, "server", key)
	takesCert(t, "as it is", public, c, true)
	takesCert(t, "another public key", sign.Public(other), c, false)
	takesCert(t, "no public key", api.Key{}, c, false)
	takesCert(t, "the certificate's own key", key, c, false)
	takesCert(t, "the secret as public key", secret, c, false)
	for _, name := range []string{"", "s", "serve", "server ", "Server", "erver", "server\x00", "revres", strings.Repeat("server", 6)} {
		bent := c
		bent.Name = name
		takesCert(t, "another name", public, bent, false)
	}
	for _, k := range []api.Key{{}, other, secret, public} {
		bent := c
		bent.Key = k
		takesCert(t, "another key", public, bent, false)
	}
	byOther, _ := Vouch(other, "server", key)
	takesCert(t, "by another one", public, byOther, false)
	takesCert(t, "by another one, for whom that one is trusted", sign.Public(other), byOther, true)
	for _, text := range [][]byte{
		slices.Concat(key[:], []byte("server")), slices.Concat([]byte("skiff cert "), key[:], []byte("server")), slices.Concat([]byte("skiff verify"), key[:], []byte("server")),
		slices.Concat([]byte("skiff cert"), []byte("server"), key[:]), slices.Concat([]byte("skiff cert"), key[:], []byte("\x06server")), slices.Concat([]byte("skiff cert"), key[:]),
	} {
		bent := c
		bent.Sign = sign.Sign(secret, text)
		takesCert(t, "of another text", public, bent, false)
	}
}

// P14.4: one bit turned: of Sign, of the key, of the name, of the public key.
func TestVouchedTurned(t *testing.T) {
	r := rand.New(rand.NewSource(1463))
	secret := chanceKey(r)
	public := sign.Public(secret)
	c, _ := Vouch(secret, "ab", chanceKey(r))
	for i := range 8 * 64 {
		bent := c
		bent.Sign[i/8] ^= 1 << (i % 8)
		takesCert(t, "Sign", public, bent, false)
	}
	for i := range 8 * 32 {
		bent := c
		bent.Key[i/8] ^= 1 << (i % 8)
		takesCert(t, "Key", public, bent, false)
		turned := public
		turned[i/8] ^= 1 << (i % 8)
		takesCert(t, "public key", turned, c, false)
	}
	for i := range 8 * 2 {
		name := []byte(c.Name)
		name[i/8] ^= 1 << (i % 8)
		bent := c
		bent.Name = string(name)
		takesCert(t, "Name", public, bent, false)
	}
}

// P14.2 to P14.4: a certificate as it goes from one to another.
func TestVouchThereAndBack(t *testing.T) {
	r := rand.New(rand.NewSource(1464))
	for _, n := range []int{1, 6, 31, 32} {
		secret := chanceKey(r)
		c, e := Vouch(secret, string(chance(r, n)), chanceKey(r))
		b, f := Cert(c)
		kind, body, size, g := Take(append(b, chance(r, 50)...))
		if e != api.OK || f != api.OK || g != api.OK || kind != api.MCert || size != len(b) {
			t.Fatalf("%d, %d, %d; %d, %d of %d", e, f, g, kind, size, len(b))
		}
		readsCert().gives(t, body, c)
		back, _ := ReadCert(body)
		takesCert(t, "read back", sign.Public(secret), back, true)
	}
}

// P1, P14.4: any keys and signatures at all: what sign.Verify says.
func TestVouchedAny(t *testing.T) {
	r := rand.New(rand.NewSource(1465))
	for range 300 {
		public, c := chanceKey(r), chanceCert(r, r.Intn(40))
		if r.Intn(2) == 0 {
			public = sign.Public(public)
			c.Sign[63] %= 16
		}
		takesCert(t, "any", public, c, sign.Verify(public, textModel(c.Name, c.Key), c.Sign))
	}
}

// R8: answers depend on the arguments alone, whoever else asks meanwhile, and whatever was asked before.
func TestVouchTogether(t *testing.T) {
	var wait sync.WaitGroup
	for i := range 8 {
		wait.Go(func() {
			r := rand.New(rand.NewSource(int64(1466 + i)))
			for range 10 {
				secret, name, key := chanceKey(r), string(chance(r, 1+r.Intn(32))), chanceKey(r)
				for range 2 {
					c, e := Vouch(secret, name, key)
					if e != api.OK || c.Name != name || c.Key != key || c.Sign != library(secret, name, key) {
						t.Errorf("Vouch(%x, %x, %x): %v, %d", secret, name, key, c, e)
					}
					takesCert(t, "meanwhile", sign.Public(secret), c, true)
					takesCert(t, "meanwhile", key, c, false)
				}
			}
		})
	}
	wait.Wait()
}
