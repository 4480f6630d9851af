package qpoly

import (
	"iter"
	"math/bits"
	"slices"

	"quadratrix/api"
)

// prime is a prime number below 2^31: so products of two residues, and a third one, fit into a uint64. Polynomials modulo a prime are lists of residues, the lowest coefficient first, the last one not 0.
type prime uint64

// longPrime is from where on prime numbers are taken if many of them are needed; they have 31 bits.
const (
	longPrime     = 1 << longPrimeBits
	longPrimeBits = 30
)

// primes yields the prime numbers from n, which is at least 2, in turn.
func primes(n uint64) iter.Seq[prime] {
	return func(yield func(prime) bool) {
		for ; ; n++ {
			if isPrime(n) && !yield(prime(n)) {
				return
			}
		}
	}
}

// isPrime reports whether n, from 2 to 3215031750, is a prime number: to these four bases no other number of this size passes the test of Miller and Rabin.
func isPrime(n uint64) bool {
	bases := [...]uint64{2, 3, 5, 7}
	for _, a := range bases {
		if n%a == 0 {
			return n == a
		}
	}
	for _, a := range bases {
		if !passes(prime(n), a) {
			return false
		}
	}
	return true
}

// passes reports whether the powers of a modulo m, which is odd, could be those modulo a prime number: the exponent m - 1 without factors 2 leads to 1, or, squared, to m - 1.
func passes(m prime, a uint64) bool {
	twos := bits.TrailingZeros64(uint64(m) - 1)
	x := m.pow(a, uint64(m-1)>>twos)
	if x == 1 {
		return true
	}
	for range twos {
		if x == uint64(m)-1 {
			return true
		}
		x = m.mul(x, x)
	}
	return false
}

func (m prime) mul(a, b uint64) uint64 {
	return a * b % uint64(m)
}

func (m prime) neg(a uint64) uint64 {
	return (uint64(m) - a) % uint64(m)
}

func (m prime) pow(a, n uint64) uint64 {
	out := 1 % uint64(m)
	for ; n > 0; n >>= 1 {
		if n&1 == 1 {
			out = m.mul(out, a)
		}
		a = m.mul(a, a)
	}
	return out
}

// inverse returns 1 / a, for a residue other than 0.
func (m prime) inverse(a uint64) uint64 {
	return m.pow(a, uint64(m)-2)
}

// residue returns an integer modulo m.
func (m prime) residue(a api.Int) uint64 {
	r := uint64(0)
	for _, w := range slices.Backward(a.Abs) {
		r = (r<<wordBits | uint64(w)) % uint64(m)
	}
	if a.Neg {
		return m.neg(r)
	}
	return r
}

// residues returns a polynomial modulo m.
func (m prime) residues(p ints) []uint64 {
	return cutResidues(each(p, func(_ int, a api.Int) uint64 { return m.residue(a) }))
}

func cutResidues(p []uint64) []uint64 {
	return cut(p, func(a uint64) int { return int(a) })
}

func (m prime) scale(p []uint64, c uint64) []uint64 {
	return each(p, func(_ int, a uint64) uint64 { return m.mul(a, c) })
}

func (m prime) deriv(p []uint64) []uint64 {
	return cutResidues(each(p[min(1, len(p)):], func(i int, a uint64) uint64 {
		return m.mul(a, uint64(i+1)%uint64(m))
	}))
}

// value returns p(x).
func (m prime) value(p []uint64, x uint64) uint64 {
	out := uint64(0)
	for _, a := range slices.Backward(p) {
		out = (out*x + a) % uint64(m)
	}
	return out
}

// less takes c q x^k off p, in place; p is long enough.
func (m prime) less(p, q []uint64, c uint64, k int) {
	c = m.neg(c)
	for i, a := range q {
		p[k+i] = (p[k+i] + c*a) % uint64(m)
	}
}

// lessProduct returns p - q r.
func (m prime) lessProduct(p, q, r []uint64) []uint64 {
	out := make([]uint64, max(len(p), len(q)+len(r)))
	copy(out, p)
	for k, c := range q {
		m.less(out, r, c, k)
	}
	return cutResidues(out)
}

// divide returns the quotient and the remainder of a and b, which is not 0.
func (m prime) divide(a, b []uint64) (quo, rem []uint64) {
	n := len(b) - 1
	inverse := m.inverse(b[n])
	rem = slices.Clone(a)
	quo = make([]uint64, max(0, len(a)-n))
	for k := len(quo) - 1; k >= 0; k-- {
		quo[k] = m.mul(rem[k+n], inverse)
		m.less(rem[:k+n], b[:n], quo[k], k)
	}
	return quo, cutResidues(rem[:min(n, len(rem))])
}

// step is a step of Euclid's algorithm: a is quo b + rem.
type step struct{ a, b, quo, rem []uint64 }

// euclid yields the steps of Euclid's algorithm; the remainder of the last one is 0. If b is 0, there is none.
func (m prime) euclid(a, b []uint64) iter.Seq[step] {
	return func(yield func(step) bool) {
		for len(b) > 0 {
			quo, rem := m.divide(a, b)
			if !yield(step{a, b, quo, rem}) {
				return
			}
			a, b = b, rem
		}
	}
}

// gcd returns the monic greatest common divisor of two polynomials that are not both 0.
func (m prime) gcd(a, b []uint64) []uint64 {
	for s := range m.euclid(a, b) {
		a = s.b
	}
	return m.scale(a, m.inverse(a[len(a)-1]))
}

// resultant returns the resultant of two polynomials other than 0: that of a and b is, up to a sign, that of b and a, and by its roots that of b and the remainder, times a power of the leading coefficient of b.
func (m prime) resultant(a, b []uint64) uint64 {
	out := uint64(1)
	for s := range m.euclid(a, b) {
		n, k := len(s.b)-1, len(s.rem)-1
		if n > 0 && k < 0 {
			return 0
		}
		drop := len(s.a) - 1 - max(k, 0)
		out = m.mul(out, m.pow(s.b[n], uint64(drop)))
		if len(s.a)%2 == 0 && n%2 == 1 {
			out = m.neg(out)
		}
	}
	return out
}

// cofactors returns the resultant r of two coprime polynomials, and polynomials with u a + v b = r, of lesser degrees than b and a.
func (m prime) cofactors(a, b []uint64) (r uint64, u, v []uint64) {
	u, nextU := []uint64{1}, []uint64{}
	v, nextV := []uint64{}, []uint64{1}
	last := a
	for s := range m.euclid(a, b) {
		u, nextU = nextU, m.lessProduct(u, s.quo, nextU)
		v, nextV = nextV, m.lessProduct(v, s.quo, nextV)
		last = s.b
	}
	r = m.resultant(a, b)
	c := m.mul(r, m.inverse(last[0]))
	return r, m.scale(u, c), m.scale(v, c)
}
