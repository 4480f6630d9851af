package qpoly

import (
	"slices"

	"quadratrix/api"
	"quadratrix/num"
	"quadratrix/rat"
)

// Roots returns the rational roots.
func Roots(p []api.Rat) ([]api.Rat, api.Errno) {
	switch {
	case !sound(p):
		return nil, api.ErrArg
	case len(p) == 0:
		return nil, api.ErrZero
	case Deg(p) > api.MaxDegree:
		return nil, api.ErrLimit
	}
	_, f := parts(p)
	if f.bits() > api.MaxCoeff {
		return nil, api.ErrLimit
	}
	f = f.squarefree()
	var out []api.Rat
	m, starts := f.simpleRoots()
	for _, x := range starts {
		if a, ok := f.rootNear(x, m); ok {
			out = append(out, a)
		}
	}
	slices.SortFunc(out, rat.Cmp)
	return out, api.OK
}

// simpleRoots returns a prime number that does not divide the leading coefficient of a squarefree polynomial, and modulo which the polynomial is squarefree, too, and its roots there. (Only the divisors of its resultant with its derivative are no such numbers.)
func (p ints) simpleRoots() (m prime, list []uint64) {
	for m := range primes(2) {
		a := m.residues(p)
		if len(a) < len(p) || len(m.gcd(a, m.deriv(a))) > 1 {
			continue
		}
		for x := range uint64(m) {
			if m.value(a, x) == 0 {
				list = append(list, x)
			}
		}
		return m, list
	}
	return 0, nil
}

// rootNear returns the rational root of p that is x modulo m, and whether there is one. The leading coefficient times a root is an integer, and not greater than the sum of the absolute values of all coefficients.
func (p ints) rootNear(x uint64, m prime) (api.Rat, bool) {
	sum := api.Int{}
	for _, a := range p {
		sum = num.Add(sum, num.Abs(a))
	}
	root, module := p.lift(num.Of(int(x)), num.Of(int(m)), num.Add(sum, sum))
	a, _ := rat.Make(centred(num.Mul(p.lead(), root), module), p.lead())
	_, ok := p.quotient(ints{num.Neg(a.N), a.D})
	return a, ok
}

// lift returns the root of p modulo a power of m that is greater than least, and this power; x is the root modulo m, and the derivative of p has an inverse there. Each of Newton's steps doubles the exponent.
func (p ints) lift(x, m, least api.Int) (root, module api.Int) {
	slope := p.deriv()
	for num.Cmp(m, least) <= 0 {
		_, inverse, _, _ := num.Bezout(slope.value(x, m), m)
		m = num.Mul(m, m)
		step := num.Mul(p.value(x, m), inverse)
		_, x, _ = num.Div(num.Sub(x, step), m)
	}
	return x, m
}

// value returns p(x) modulo m, from 0 on.
func (p ints) value(x, m api.Int) api.Int {
	out := api.Int{}
	for _, a := range slices.Backward(p) {
		_, out, _ = num.Div(num.Add(num.Mul(out, x), a), m)
	}
	return out
}
