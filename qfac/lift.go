package qfac

import (
	"slices"

	"quadratrix/api"
	"quadratrix/num"
	"quadratrix/qpoly"
	"quadratrix/rat"
)

// ring is the ring of the integers modulo m, a power of a prime number. The polynomials over it have whole coefficients from 0 to m - 1.
type ring struct{ m api.Int }

func (r ring) number(a api.Rat) api.Rat {
	_, rem, _ := num.Div(a.N, r.m)
	return rat.Whole(rem)
}

// reduce returns a polynomial with whole coefficients modulo m.
func (r ring) reduce(p []api.Rat) []api.Rat {
	out := make([]api.Rat, len(p))
	for i, a := range p {
		out[i] = r.number(a)
	}
	return cut(out, func(a api.Rat) bool { return rat.Sign(a) == 0 })
}

func (r ring) mul(p, q []api.Rat) []api.Rat {
	return r.reduce(qpoly.Mul(p, q))
}

// centre returns the whole number of the least absolute value that is a, from 0 to m - 1, modulo m.
func (r ring) centre(a api.Rat) api.Rat {
	if num.Cmp(num.Add(a.N, a.N), r.m) > 0 {
		return rat.Whole(num.Sub(a.N, r.m))
	}
	return a
}

// divide returns the quotient and the remainder of p and q, which is monic.
func (r ring) divide(p, q []api.Rat) (quo, rem []api.Rat) {
	n := qpoly.Deg(q)
	rest := slices.Clone(p)
	quo = make([]api.Rat, max(0, len(p)-n))
	for k := len(quo) - 1; k >= 0; k-- {
		quo[k] = r.number(rest[k+n])
		for i, a := range q[:n] {
			rest[k+i] = rat.Sub(rest[k+i], rat.Mul(quo[k], a))
		}
	}
	return r.reduce(quo), r.reduce(rest[:min(n, len(p))])
}

// pair are two polynomials a and b over a ring, a being monic, and two with s a + t b = 1, t being of a lesser degree than a.
type pair struct{ a, b, s, t []api.Rat }

// lift returns the pair modulo m^k whose product is p, and which is g and h modulo m: there g h is p, g is monic, and g and h are coprime. Each of Hensel's steps doubles the exponent.
func (f *field[T]) lift(p []api.Rat, g, h poly[T], k int) pair {
	if k == 1 {
		s, t, _ := f.bezout(g, h)
		return pair{g.whole(), h.whole(), s.whole(), t.whole()}
	}
	half := (k + 1) / 2
	l := f.lift(p, g, h, half)
	if half > 1 {
		l = l.completed(f.ring(half))
	}
	return l.refined(p, f.ring(k))
}

// ring returns the ring of the integers modulo m^k.
func (f *field[T]) ring(k int) ring {
	m, _ := num.Pow(num.Of(int(f.m)), k)
	return ring{m}
}

// refined returns the pair with the product p in r, from that in a ring whose modulus has a square that is a multiple of that of r. What is missing from the product, e, is s a e + t b e: so the factors change by t e and s e; the multiples of a in the first one go to the other.
func (l pair) refined(p []api.Rat, r ring) pair {
	missing := r.reduce(qpoly.Sub(p, qpoly.Mul(l.a, l.b)))
	quo, rem := r.divide(r.mul(l.t, missing), l.a)
	l.b = r.reduce(sum(l.b, qpoly.Mul(l.s, missing), qpoly.Mul(quo, l.b)))
	l.a = r.reduce(sum(l.a, rem))
	return l
}

// completed returns the pair with s and t in r, from those in a ring whose modulus has a square that is a multiple of that of r, in the same way.
func (l pair) completed(r ring) pair {
	one := qpoly.Const(rat.Whole(num.Of(1)))
	missing := r.reduce(qpoly.Sub(one, sum(qpoly.Mul(l.s, l.a), qpoly.Mul(l.t, l.b))))
	quo, rem := r.divide(r.mul(l.t, missing), l.a)
	l.s = r.reduce(sum(l.s, qpoly.Mul(l.s, missing), qpoly.Mul(quo, l.b)))
	l.t = r.reduce(sum(l.t, rem))
	return l
}

func sum(list ...[]api.Rat) []api.Rat {
	var out []api.Rat
	for _, p := range list {
		out = qpoly.Add(out, p)
	}
	return out
}

// liftAll returns the factors of p, which is monic, modulo m^k that are those of the list modulo m, which are monic, coprime, and have the product p there.
func (f *field[T]) liftAll(p []api.Rat, list []poly[T], k int) [][]api.Rat {
	if len(list) == 1 {
		return [][]api.Rat{p}
	}
	half := len(list) / 2
	l := f.lift(p, f.product(list[:half]), f.product(list[half:]), k)
	return append(f.liftAll(l.a, list[:half], k), f.liftAll(l.b, list[half:], k)...)
}

func (f *field[T]) product(list []poly[T]) poly[T] {
	out := poly[T]{1}
	for _, p := range list {
		out = f.mul(out, p)
	}
	return out
}
