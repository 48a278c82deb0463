package gcm

import "skiff/aes"

// What x^128 is in a polynomial's first half, since they are modulo x^128 + x^7 + x^2 + x + 1.
const carry = 0xe1 << 56

// polynomial is one over two, below x^128: the first half has the constant in its highest bit, the second half x^127 in its lowest.
type polynomial struct{ first, second uint64 }

// sum: of all blocks of the parts: what has come so far joined with the next one, and multiplied. Each part's last block is filled up with noughts by itself.
func sum(factor polynomial, parts ...[]byte) polynomial {
	var y polynomial
	for _, part := range parts {
		for len(part) > 0 {
			var next aes.Block
			part = part[copy(next[:], part):]
			y = y.plus(read(next)).times(factor)
		}
	}
	return y
}

// read: the polynomial that a block is.
func read(b aes.Block) polynomial {
	var p polynomial
	for i := range size / 2 {
		p.first = p.first<<8 | uint64(b[i])
		p.second = p.second<<8 | uint64(b[size/2+i])
	}
	return p
}

// block: the block that a polynomial is.
func (p polynomial) block() aes.Block {
	var b aes.Block
	for i := range size / 2 {
		shift := 8 * (size/2 - 1 - i)
		b[i] = byte(p.first >> shift)
		b[size/2+i] = byte(p.second >> shift)
	}
	return b
}

// plus: both, joined by exclusive-or.
func (p polynomial) plus(q polynomial) polynomial {
	return polynomial{p.first ^ q.first, p.second ^ q.second}
}

// times: the product: of each power of x that p has, q times it.
func (p polynomial) times(q polynomial) polynomial {
	var out polynomial
	for _, half := range [2]uint64{p.first, p.second} {
		for i := range 64 {
			has := half >> (63 - i) & 1
			out = out.plus(polynomial{q.first * has, q.second * has})
			q = q.timesX()
		}
	}
	return out
}

// timesX: the product with x.
func (p polynomial) timesX() polynomial {
	over := p.second & 1
	return polynomial{p.first>>1 ^ over*carry, p.first<<63 | p.second>>1}
}
