// Package field is layer 1: numbers modulo 2^255 - 19: see shared/doc/01-field.md.
package field

import (
	"math/bits"

	"skiff/api"
)

const (
	partBits = 51
	partMask = 1<<partBits - 1
	// 2^255 is 19 modulo 2^255 - 19: what overflows comes back so many times.
	wrap = 19
)

// Element is a number, in five parts of 51 bits.
//
// Every part is below 2^51, and the number below 2^255 - 19: so the same numbers have the same parts, and an Element that wasn't made is 0.
type Element struct{ parts [5]uint64 }

// Of: the number of 32 bytes, the lowest first; the highest bit says nothing.
func Of(b api.Key) Element {
	var w [4]uint64
	for i := range b {
		w[i/8] |= uint64(b[i]) << (i % 8 * 8)
	}
	return reduce(
		w[0]&partMask,
		(w[0]>>51|w[1]<<13)&partMask,
		(w[1]>>38|w[2]<<26)&partMask,
		(w[2]>>25|w[3]<<39)&partMask,
		w[3]>>12&partMask,
	)
}

// Small: a small number.
func Small(n uint32) Element { return Element{[5]uint64{uint64(n)}} }

// Bytes: the number, below 2^255 - 19, as 32 bytes, the lowest first.
func (a Element) Bytes() api.Key {
	l := a.parts
	w := [4]uint64{
		l[0] | l[1]<<51,
		l[1]>>13 | l[2]<<38,
		l[2]>>26 | l[3]<<25,
		l[3]>>39 | l[4]<<12,
	}
	var b api.Key
	for i := range b {
		b[i] = byte(w[i/8] >> (i % 8 * 8))
	}
	return b
}

// Add: the sum.
func (a Element) Add(b Element) Element {
	x, y := &a.parts, &b.parts
	return reduce(x[0]+y[0], x[1]+y[1], x[2]+y[2], x[3]+y[3], x[4]+y[4])
}

// Sub: the difference.
func (a Element) Sub(b Element) Element {
	// Twice 2^255 - 19 goes ahead, so that no part falls below 0.
	const first, other = 2 * (partMask + 1 - wrap), 2 * partMask
	x, y := &a.parts, &b.parts
	return reduce(first+x[0]-y[0], other+x[1]-y[1], other+x[2]-y[2], other+x[3]-y[3], other+x[4]-y[4])
}

// Neg: the opposite.
func (a Element) Neg() Element { return Element{}.Sub(a) }

// Mul: the product.
func (a Element) Mul(b Element) Element {
	x, y := &a.parts, &b.parts
	y1, y2, y3, y4 := wrap*y[1], wrap*y[2], wrap*y[3], wrap*y[4]
	// A row adds up to less than 2^109, so that its carry has room in 64 bits. In the last row nothing is wrapped, so that 19 times its carry has room, too.
	p0, carry := row(0, x, y[0], y4, y3, y2, y1)
	p1, carry := row(carry, x, y[1], y[0], y4, y3, y2)
	p2, carry := row(carry, x, y[2], y[1], y[0], y4, y3)
	p3, carry := row(carry, x, y[3], y[2], y[1], y[0], y4)
	p4, carry := row(carry, x, y[4], y[3], y[2], y[1], y[0])
	return reduce(p0+wrap*carry, p1, p2, p3, p4)
}

// row: a carry, and the products of the parts that stand under one another, added up: the lowest 51 bits, and what is above them.
func row(carry uint64, x *[5]uint64, y0, y1, y2, y3, y4 uint64) (part, above uint64) {
	hi, lo := plus(0, carry, x[0], y0)
	hi, lo = plus(hi, lo, x[1], y1)
	hi, lo = plus(hi, lo, x[2], y2)
	hi, lo = plus(hi, lo, x[3], y3)
	hi, lo = plus(hi, lo, x[4], y4)
	return lo & partMask, hi<<(64-partBits) | lo>>partBits
}

// plus: a number of 128 bits, and a product.
func plus(hi, lo, x, y uint64) (uint64, uint64) {
	h, l := bits.Mul64(x, y)
	lo, c := bits.Add64(lo, l, 0)
	hi, _ = bits.Add64(hi, h, c)
	return hi, lo
}

// Power: to a power, whose bytes stand the lowest first.
func (a Element) Power(e api.Key) Element {
	p := Small(1)
	for i := range 256 {
		at := 255 - i
		p = p.Mul(p)
		// Both are reckoned, so that the steps don't tell the power.
		p, _ = Swap(uint64(e[at/8]>>(at%8)), p, p.Mul(a))
	}
	return p
}

// Invert: 1 over the number; 0 of 0.
func (a Element) Invert() Element {
	// The power 2^255 - 21 (by Fermat).
	return a.Power(ones(0xeb, 0x7f))
}

// ones: a number whose bits are 1, but for its lowest and its highest byte.
func ones(lowest, highest byte) api.Key {
	var k api.Key
	for i := range k {
		k[i] = 0xff
	}
	k[0], k[31] = lowest, highest
	return k
}

// Zero: is it 0?
func (a Element) Zero() bool { return a == Element{} }

// Same: are both the same?
func (a Element) Same(b Element) bool { return a == b }

// Odd: is it odd (as a number below 2^255 - 19)?
func (a Element) Odd() bool { return a.parts[0]&1 == 1 }

// Root: a number whose square is x over y; false: there is none.
func Root(x, y Element) (Element, bool) {
	// x over y, to the power (p + 3) / 8, without an inverse: x y^3 times (x y^7) to the power 2^252 - 3. If there is a root, the square of this is x over y, or its opposite.
	y3 := y.Mul(y).Mul(y)
	y7 := y3.Mul(y3).Mul(y)
	root := x.Mul(y3).Mul(x.Mul(y7).Power(ones(0xfd, 0x0f)))
	back := root.Mul(root).Mul(y)
	if back.Same(x) {
		return root, true
	}
	if back.Same(x.Neg()) {
		return root.Mul(rootOfMinusOne()), true
	}
	return Element{}, false
}

func rootOfMinusOne() Element {
	// 2 is no square: to the power (p - 1) / 2 it is -1; this is half of that power, 2^253 - 5.
	return Small(2).Power(ones(0xfb, 0x1f))
}

// Swap: both, or both changed for one another: in the same steps.
func Swap(swap uint64, a, b Element) (Element, Element) {
	mask := -(swap & 1)
	for i := range a.parts {
		differ := mask & (a.parts[i] ^ b.parts[i])
		a.parts[i] ^= differ
		b.parts[i] ^= differ
	}
	return a, b
}

// reduce: the Element of five parts, each below 2^63.
func reduce(p0, p1, p2, p3, p4 uint64) Element {
	p0, p1, p2, p3, p4, above := carried(p0, p1, p2, p3, p4)
	p0 += wrap * above
	// Now the number is below 2^255 + 2^19. If it and 19 reach 2^255, it isn't below 2^255 - 19: then 19 is added, and 2^255 falls off.
	_, _, _, _, _, above = carried(p0+wrap, p1, p2, p3, p4)
	p0, p1, p2, p3, p4, _ = carried(p0+wrap*above, p1, p2, p3, p4)
	return Element{[5]uint64{p0, p1, p2, p3, p4}}
}

// carried: each part below 2^51, and what is above all.
func carried(p0, p1, p2, p3, p4 uint64) (q0, q1, q2, q3, q4, above uint64) {
	p1 += p0 >> partBits
	p2 += p1 >> partBits
	p3 += p2 >> partBits
	p4 += p3 >> partBits
	return p0 & partMask, p1 & partMask, p2 & partMask, p3 & partMask, p4 & partMask, p4 >> partBits
}
