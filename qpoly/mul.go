package qpoly

import (
	"math/bits"

	"quadratrix/api"
	"quadratrix/num"
	"quadratrix/rat"
)

// Mul returns a product.
func Mul(p, q []api.Rat) []api.Rat {
	if !sound(p, q) {
		return nil
	}
	a, d := whole(p)
	b, e := whole(q)
	return over(times(a, b), num.Mul(d, e))
}

// Pow returns a power.
func Pow(p []api.Rat, n int) ([]api.Rat, api.Errno) {
	switch {
	case !sound(p) || n < 0:
		return nil, api.ErrArg
	case n == 0:
		return Const(rat.Whole(unity())), api.OK
	case len(p) == 0:
		return nil, api.OK
	case n > api.MaxTerms/len(p):
		return nil, api.ErrLimit
	}
	a, d := whole(p)
	return overPower(power(a, n, times), d, n), api.OK
}

// power returns the product of n factors a, for n above 0. The bits of n are gone through from the highest one on, so that one factor of each product is a itself or a square is taken.
func power[T any](a T, n int, mul func(a, b T) T) T {
	out := a
	for i := bits.Len(uint(n)) - 2; i >= 0; i-- {
		out = mul(out, out)
		if n>>i&1 == 1 {
			out = mul(out, a)
		}
	}
	return out
}

// raise returns a to the power n, which is not negative; unlike num.Pow it knows no limit.
func raise(a api.Int, n int) api.Int {
	if n == 0 {
		return unity()
	}
	return power(a, n, num.Mul)
}

// wordBits is how many bits a word of an integer has.
const wordBits = 32

// minPacked is from how many coefficients of each factor on a product is computed by way of long integers, and maxPadding how many times as long as the coefficients these may be: otherwise to go through the terms is faster.
const (
	minPacked  = 6
	maxPadding = 4
)

// times returns a product.
func times(p, q ints) ints {
	if len(p) == 0 || len(q) == 0 {
		return nil
	}
	width := blockWords(p, q)
	if min(len(p), len(q)) < minPacked || padded(p, width) || padded(q, width) {
		return byTerms(p, q)
	}
	product := num.Mul(pack(p, width), pack(q, width))
	return unpack(product, len(p)+len(q)-1, width)
}

// byTerms returns the product of two polynomials other than 0, term by term.
func byTerms(p, q ints) ints {
	out := make(ints, len(p)+len(q)-1)
	for i, a := range p {
		if num.Sign(a) == 0 {
			continue
		}
		for j, b := range q {
			if num.Sign(b) != 0 {
				out[i+j] = num.Add(out[i+j], num.Mul(a, b))
			}
		}
	}
	return out
}

// blockWords returns how many words are enough for each coefficient of a product, with its sign.
func blockWords(p, q ints) int {
	terms := min(len(p), len(q))
	return (p.bits() + q.bits() + bits.Len(uint(terms)) + wordBits) / wordBits
}

// padded reports whether blocks for all coefficients of p would be much longer than the coefficients.
func padded(p ints, width int) bool {
	words := 0
	for _, a := range p {
		words += len(a.Abs)
	}
	return len(p)*width > maxPadding*words
}

// pack returns the value of p at 2^(32 width), as Kronecker does: the coefficients lie in it one behind the other.
func pack(p ints, width int) api.Int {
	plus, minus := make([]uint32, len(p)*width), make([]uint32, len(p)*width)
	for i, a := range p {
		if a.Neg {
			copy(minus[i*width:], a.Abs)
		} else {
			copy(plus[i*width:], a.Abs)
		}
	}
	return num.Sub(fromWords(plus), fromWords(minus))
}

// unpack returns the n coefficients of the polynomial, the last one not 0, whose value at 2^(32 width) is a: they are below half of this number, and above its opposite.
func unpack(a api.Int, n, width int) ints {
	base := fromWords(append(make([]uint32, width), 1))
	half := fromWords(append(make([]uint32, width-1), 1<<(wordBits-1)))
	out := make(ints, n)
	carry := api.Int{}
	for i := range out {
		from, to := min(i*width, len(a.Abs)), min((i+1)*width, len(a.Abs))
		block := num.Add(fromWords(a.Abs[from:to]), carry)
		carry = api.Int{}
		if num.Cmp(block, half) >= 0 {
			block = num.Sub(block, base)
			carry = unity()
		}
		if a.Neg {
			block = num.Neg(block)
		}
		out[i] = block
	}
	return out
}

// fromWords returns the integer with the words w, the lowest one first.
func fromWords(w []uint32) api.Int {
	return api.Int{Abs: cut(w, func(x uint32) int { return int(x) })}
}
