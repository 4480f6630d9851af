package num

import (
	"math/bits"

	"quadratrix/api"
)

// shortWords is up to how many words of the shorter factor a product is computed row by row: below, the additions of the other way cost more than its products save.
const shortWords = 48

// Mul returns a product.
func Mul(a, b api.Int) api.Int {
	if !both(a, b) {
		return api.Int{}
	}
	return signed(a.Neg != b.Neg, product(a.Abs, b.Abs))
}

// Pow returns a power.
func Pow(a api.Int, n int) (api.Int, api.Errno) {
	if !Is(a) {
		return api.Int{}, api.ErrForm
	}
	if n < 0 {
		return api.Int{}, api.ErrArg
	}
	k := bitLen(a.Abs)
	if k > 1 && n > api.MaxBits/k {
		return api.Int{}, api.ErrLimit
	}
	return signed(a.Neg && n%2 == 1, power(a.Abs, n)), api.OK
}

// power returns the product of n factors w. The bits of n are gone through from the highest one on, so that one factor of each product is w itself or a square is taken.
func power(w []uint32, n int) []uint32 {
	out := []uint32{1}
	for i := bits.Len(uint(n)) - 1; i >= 0; i-- {
		out = product(out, out)
		if n>>i&1 == 1 {
			out = product(out, w)
		}
	}
	return out
}

// product returns a b.
func product(a, b []uint32) []uint32 {
	if len(a) < len(b) {
		a, b = b, a
	}
	if len(b) == 0 {
		return nil
	}
	out := make([]uint32, len(a)+len(b))
	switch {
	case len(b) <= shortWords:
		byRows(out, a, b)
	case 2*len(b) <= len(a)+1:
		byPieces(out, a, b)
	default:
		byHalves(out, a, b)
	}
	return trim(out)
}

// byRows puts a b into out, which is 0: the words of b one after the other.
func byRows(out, a, b []uint32) {
	for i, y := range b {
		out[i+len(a)] = addRow(out[i:], a, y)
	}
}

// byPieces adds a b to out: pieces of a that are as long as b one after the other.
func byPieces(out, a, b []uint32) {
	for i := 0; i < len(a); i += len(b) {
		piece := a[i:min(i+len(b), len(a))]
		addTo(out[i:], product(trim(piece), b))
	}
}

// byHalves adds a b to out, as Karatsuba does: with a = a1 B + a0 and b = b1 B + b0, the middle product a1 b0 + a0 b1 is (a1 + a0)(b1 + b0) less the two others, so that three products do. The shorter factor b is longer than half of a.
func byHalves(out, a, b []uint32) {
	k := (len(a) + 1) / 2
	a0, a1 := trim(a[:k]), a[k:]
	b0, b1 := trim(b[:k]), b[k:]
	low, high := product(a0, b0), product(a1, b1)
	middle := product(sum(a0, a1), sum(b0, b1))
	addTo(out, low)
	addTo(out[2*k:], high)
	addTo(out[k:], difference(difference(middle, low), high))
}

// addRow adds y w to as many words of out, and returns the carry.
func addRow(out, w []uint32, y uint32) uint32 {
	carry := uint64(0)
	for i, x := range w {
		t := uint64(x)*uint64(y) + uint64(out[i]) + carry
		out[i] = uint32(t)
		carry = t >> 32
	}
	return uint32(carry)
}

// addTo adds w to out, which is long enough for the sum.
func addTo(out, w []uint32) {
	carry := uint64(0)
	for i, x := range w {
		t := uint64(out[i]) + uint64(x) + carry
		out[i] = uint32(t)
		carry = t >> 32
	}
	for i := len(w); carry != 0; i++ {
		t := uint64(out[i]) + carry
		out[i] = uint32(t)
		carry = t >> 32
	}
}
