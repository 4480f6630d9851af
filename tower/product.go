package tower

import (
	"math/bits"

	"quadratrix/api"
	"quadratrix/num"
)

// minPacked is from how many coefficients of each factor on a product is computed by way of long integers, and maxPadding how many times as long as the coefficients these may be: otherwise to go through the terms is faster.
const (
	minPacked  = 6
	maxPadding = 4
)

// intBits is the number of bits of an int. With ints, products are computed term by term if one factor has less than maxShort coefficients.
const (
	intBits  = 64
	maxShort = 200
)

// product returns the product of two polynomials other than 0 in the first monomial.
func product(p, q poly[multi]) poly[multi] {
	long, terms := sumBits(p, q), min(len(p), len(q))
	width := (long + wordBits) / wordBits
	switch {
	case long < intBits && terms < maxShort:
		return shortProduct(p, q)
	case terms < minPacked || padded(p, width) || padded(q, width):
		return p.times(q)
	}
	packed := num.Mul(pack(p, width), pack(q, width))
	return unpack(packed, len(p)+len(q)-1, width)
}

// shortProduct returns the product of two polynomials if all coefficients fit into ints.
func shortProduct(p, q poly[multi]) poly[multi] {
	a, b := ints(p), ints(q)
	sums := make([]int, len(p)+len(q)-1)
	for i, x := range a {
		if x == 0 {
			continue
		}
		for k, y := range b {
			sums[i+k] += x * y
		}
	}
	out := make(poly[multi], len(sums))
	for i, n := range sums {
		out[i] = integer(num.Of(n))
	}
	return out
}

// ints returns the coefficients of a polynomial, which fit into ints.
func ints(p poly[multi]) []int {
	out := make([]int, len(p))
	for i, c := range p {
		out[i], _ = num.Small(c.n)
	}
	return out
}

// sumBits returns how many bits are enough for the absolute value of each coefficient of a product.
func sumBits(p, q poly[multi]) int {
	terms := min(len(p), len(q))
	return longest(p) + longest(q) + bits.Len(uint(terms))
}

// longest returns the greatest number of bits of a coefficient.
func longest(p poly[multi]) int {
	most := 0
	for _, c := range p {
		most = max(most, num.Bits(c.n))
	}
	return most
}

// padded reports whether blocks for all coefficients of p would be much longer than the coefficients.
func padded(p poly[multi], width int) bool {
	words := 0
	for _, c := range p {
		words += len(c.n.Abs)
	}
	return len(p)*width > maxPadding*words
}

// pack returns the value of p at 2^(32 width), as Kronecker does: the coefficients lie in it one behind the other.
func pack(p poly[multi], width int) api.Int {
	plus, minus := make([]uint32, len(p)*width), make([]uint32, len(p)*width)
	for i, c := range p {
		if c.n.Neg {
			copy(minus[i*width:], c.n.Abs)
		} else {
			copy(plus[i*width:], c.n.Abs)
		}
	}
	return num.Sub(fromWords(plus), fromWords(minus))
}

// unpack returns the n coefficients of the polynomial whose value at 2^(32 width) is a: they are below half of this number, and above its opposite.
func unpack(a api.Int, n, width int) poly[multi] {
	base := fromWords(append(make([]uint32, width), 1))
	half := fromWords(append(make([]uint32, width-1), 1<<(wordBits-1)))
	out := make(poly[multi], n)
	carry := api.Int{}
	for i := range out {
		from, to := min(i*width, len(a.Abs)), min((i+1)*width, len(a.Abs))
		block := num.Add(fromWords(a.Abs[from:to]), carry)
		carry = api.Int{}
		if num.Cmp(block, half) >= 0 {
			block = num.Sub(block, base)
			carry = num.Of(1)
		}
		if a.Neg {
			block = num.Neg(block)
		}
		out[i] = integer(block)
	}
	return out
}

// fromWords returns the integer with these words, the lowest one first; there may be zeros at the end.
func fromWords(w []uint32) api.Int {
	return api.Int{Abs: withoutZeros(w)}
}

func withoutZeros(w []uint32) []uint32 {
	n := len(w)
	for n > 0 && w[n-1] == 0 {
		n--
	}
	return w[:n]
}
