package tower

import (
	"iter"
	"math/bits"
	"slices"

	"quadratrix/api"
)

// wordBits is the number of bits of a word of an integer.
const wordBits = 32

// leastPrime is from where on prime numbers are taken. They have 31 bits, so that a product of two residues, and some more of them, fit into a uint64.
const leastPrime = 1 << 30

// prime is a prime number m from 2^30 to 2^31. Residues modulo m are from 0 to m - 1.
type prime struct {
	m    uint64
	rate uint64 // 2^64 / m, rounded down: by this product and not by a division residues are found
}

func newPrime(m uint64) prime {
	rate, _ := bits.Div64(1, 0, m)
	return prime{m, rate}
}

// primes yields the prime numbers from n in turn.
func primes(n uint64) iter.Seq[prime] {
	return func(yield func(prime) bool) {
		for ; ; n++ {
			if p := newPrime(n); p.isPrime() && !yield(p) {
				return
			}
		}
	}
}

// isPrime reports whether m is a prime number: to these four bases no other number below 3215031750 passes the test of Miller and Rabin.
func (p prime) isPrime() bool {
	bases := [...]uint64{2, 3, 5, 7}
	for _, a := range bases {
		if p.m%a == 0 || !p.passes(a) {
			return false
		}
	}
	return true
}

// passes reports whether the powers of a modulo m, which is odd, could be those modulo a prime number: the exponent m - 1 without factors 2 leads to 1, or, squared, to m - 1.
func (p prime) passes(a uint64) bool {
	twos := bits.TrailingZeros64(p.m - 1)
	x := p.pow(a, (p.m-1)>>twos)
	if x == 1 {
		return true
	}
	for range twos {
		if x == p.m-1 {
			return true
		}
		x = p.mul(x, x)
	}
	return false
}

// rem returns a modulo m. The quotient by way of the rate is right or too small by one.
func (p prime) rem(a uint64) uint64 {
	quo, _ := bits.Mul64(a, p.rate)
	a -= quo * p.m
	if a >= p.m {
		a -= p.m
	}
	return a
}

func (p prime) mul(a, b uint64) uint64 {
	return p.rem(a * b)
}

func (p prime) neg(a uint64) uint64 {
	return p.rem(p.m - a)
}

func (p prime) pow(a, n uint64) uint64 {
	out := uint64(1)
	for ; n > 0; n >>= 1 {
		if n&1 == 1 {
			out = p.mul(out, a)
		}
		a = p.mul(a, a)
	}
	return out
}

// inverse returns 1 / a, for a residue other than 0.
func (p prime) inverse(a uint64) uint64 {
	return p.pow(a, p.m-2)
}

// residue returns an integer modulo m.
func (p prime) residue(a api.Int) uint64 {
	r := uint64(0)
	for _, w := range slices.Backward(a.Abs) {
		r = p.rem(r<<wordBits | uint64(w))
	}
	if a.Neg {
		return p.neg(r)
	}
	return r
}

// centred returns the integer of the least absolute value with a residue.
func (p prime) centred(a uint64) int {
	if 2*a > p.m {
		return int(a) - int(p.m)
	}
	return int(a)
}
