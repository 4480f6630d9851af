package qpoly

import (
	"quadratrix/api"
	"quadratrix/num"
	"quadratrix/rat"
)

// Gcd returns the monic greatest common divisor.
func Gcd(p, q []api.Rat) []api.Rat {
	switch {
	case !sound(p, q):
		return nil
	case len(p) == 0:
		return Monic(q)
	case len(q) == 0:
		return Monic(p)
	}
	_, a := parts(p)
	_, b := parts(q)
	return gcd(a, b).monic()
}

// gcd returns the greatest common divisor of two polynomials other than 0, which is primitive. It is put together of those modulo prime numbers: all of these divide no leading coefficient, so that no degree is too low; too high a degree is met only a few times. Whether there are prime numbers enough is tried each time when their number has doubled.
func gcd(p, q ints) ints {
	lead := num.Gcd(p.lead(), q.lead())
	var found images
	enough := 1
	for m := range primes(longPrime) {
		a, b := m.residues(p), m.residues(q)
		if len(a) < len(p) || len(b) < len(q) {
			continue
		}
		g := m.scale(m.gcd(a, b), m.residue(lead))
		if len(g) == 1 {
			break
		}
		if len(found.lists) > 0 && len(g) < len(found.lists[0]) {
			found.clear()
			enough = 1
		}
		if len(found.lists) > 0 && len(g) > len(found.lists[0]) {
			continue
		}
		found.add(m, g)
		if len(found.lists) < enough {
			continue
		}
		if d, ok := found.divisor(p, q); ok {
			return d
		}
		enough *= 2
	}
	return ints{unity()}
}

// divisor returns the primitive polynomial whose multiple has these images, and whether it divides p and q.
func (l *images) divisor(p, q ints) (ints, bool) {
	_, d := l.integers().primitive()
	if _, ok := p.quotient(d); !ok {
		return nil, false
	}
	_, ok := q.quotient(d)
	return d, ok
}

// Bezout returns the greatest common divisor as a combination.
func Bezout(p, q []api.Rat) (g, u, v []api.Rat, e api.Errno) {
	switch {
	case !sound(p, q):
		return nil, nil, nil, api.ErrArg
	case len(q) == 0:
		return Monic(p), inverse(p), nil, api.OK
	case len(p) == 0:
		return Monic(q), nil, inverse(q), api.OK
	}
	c, a := parts(p)
	d, b := parts(q)
	both := gcd(a, b)
	r, x, y := cofactors(a.exact(both), b.exact(both))
	// With the factor r of both, and by its leading coefficient, x a + y b = r both becomes monic.
	unit := rat.Whole(num.Mul(r, both.lead()))
	return both.monic(), quotient(x, rat.Mul(unit, c)), quotient(y, rat.Mul(unit, d)), api.OK
}

// inverse returns the number 1 / Lead(p), or 0 if p is 0.
func inverse(p []api.Rat) []api.Rat {
	a, e := rat.Div(rat.Whole(unity()), Lead(p))
	if e != api.OK {
		return nil
	}
	return Const(a)
}

// quotient returns p divided by a number other than 0.
func quotient(p ints, c api.Rat) []api.Rat {
	return Scale(over(p, c.N), rat.Whole(c.D))
}

// cofactors returns the resultant r of two coprime polynomials p and q, and polynomials of lesser degrees than q and p with u p + v q = r. Their coefficients are, up to signs, determinants of parts of Sylvester's matrix.
func cofactors(p, q ints) (r api.Int, u, v ints) {
	list := combine(p, q, func(m prime, a, b []uint64) ([]uint64, bool) {
		r, u, v := m.cofactors(a, b)
		out := make([]uint64, 1+q.deg()+len(p)) // if both are numbers, v is 1, and has no lesser degree
		out[0] = r
		copy(out[1:], u)
		copy(out[1+q.deg():], v)
		return out, r != 0
	})
	u, v = list[1:1+q.deg()], list[1+q.deg():]
	return list[0], cut(u, num.Sign), cut(v, num.Sign)
}

// combine returns the integers whose images ask computes of those of p and q, which are not 0; it may pass over some prime numbers. No integer is greater than the product of the lengths of the rows of Sylvester's matrix: Hadamard's bound for its determinant, and that of each part of it.
func combine(p, q ints, ask func(m prime, a, b []uint64) ([]uint64, bool)) ints {
	most := (q.deg()*p.squareBits()+p.deg()*q.squareBits()+1)/2 + 1
	var found images
	for m := range primes(longPrime) {
		a, b := m.residues(p), m.residues(q)
		if len(a) < len(p) || len(b) < len(q) {
			continue
		}
		if list, ok := ask(m, a, b); ok {
			found.add(m, list)
		}
		if len(found.primes)*longPrimeBits >= most {
			break
		}
	}
	return found.integers()
}

// squareBits returns the number of bits of the sum of the squares of the coefficients.
func (p ints) squareBits() int {
	sum := api.Int{}
	for _, a := range p {
		sum = num.Add(sum, num.Mul(a, a))
	}
	return num.Bits(sum)
}

// Resultant returns the resultant of two polynomials.
func Resultant(p, q []api.Rat) api.Rat {
	switch {
	case !sound(p, q):
		return api.Rat{}
	case len(p) == 0 || len(q) == 0:
		return nought()
	}
	c, a := parts(p)
	d, b := parts(q)
	if gcd(a, b).deg() > 0 {
		return nought()
	}
	list := combine(a, b, func(m prime, a, b []uint64) ([]uint64, bool) {
		return []uint64{m.resultant(a, b)}, true
	})
	return rat.Mul(rat.Whole(list[0]), rat.Mul(raiseNumber(c, b.deg()), raiseNumber(d, a.deg())))
}

// raiseNumber returns c to the power n, which is not negative; unlike rat.Pow it knows no limit.
func raiseNumber(c api.Rat, n int) api.Rat {
	return api.Rat{N: raise(c.N, n), D: raise(c.D, n)}
}
