package tower

import (
	"quadratrix/api"
	"quadratrix/num"
)

// shared tells what two polynomials have in common: by is their greatest common divisor, with a lead above 0, and they are by times left, and by times right.
type shared struct {
	by, left, right multi
}

// common returns what two polynomials that are not both zero have in common.
func common(a, b multi) shared {
	switch {
	case a.isOne() || b.isOne():
		return shared{unity(), a, b}
	case a.isZero():
		by := b.upright()
		return shared{by, a, b.over(by)}
	case b.isZero():
		by := a.upright()
		return shared{by, a.over(by), b}
	}
	m, n := a.content(api.Int{}), b.content(api.Int{})
	c := num.Gcd(m, n)
	s := shared{by: unity(), left: a, right: b}
	if a.level > 0 && b.level > 0 {
		s = commonPrimitive(a.over(integer(m)), b.over(integer(n)))
		s.left, s.right = s.left.times(integer(m)), s.right.times(integer(n))
	}
	return shared{s.by.times(integer(c)), s.left.over(integer(c)), s.right.over(integer(c))}
}

// commonPrimitive returns what two polynomials of levels above 0, and with contents 1, have in common.
func commonPrimitive(a, b multi) shared {
	if a.same(b) {
		by := a.upright()
		sign := a.over(by)
		return shared{by, sign, sign}
	}
	s := &search{left: a, right: b, leftDegrees: a.degrees(), rightDegrees: b.degrees()}
	s.bound()
	if s.most == (degrees{}) {
		return shared{unity(), a, b}
	}
	if others := s.others(); len(others) > 0 {
		return s.withoutOthers(others)
	}
	if by := b.upright(); s.most == s.rightDegrees && s.isDivisor(by) {
		return s.found
	}
	if by := a.upright(); s.most == s.leftDegrees && s.isDivisor(by) {
		return s.found
	}
	return s.lift()
}

// search looks for what two polynomials have in common.
type search struct {
	left, right               multi
	leftDegrees, rightDegrees degrees
	most                      degrees // degrees that the greatest common divisor does not exceed
	found                     shared
	seed                      seed
}

// bound finds the bounds of the degrees, for most polynomials the degrees themselves: those of divisors that are left modulo a prime number, with numbers in place of all monomials but one.
func (s *search) bound() {
	vars := s.variables()
	var open []int
	for i, v := range vars {
		if s.leftDegrees[v] > 0 && s.rightDegrees[v] > 0 {
			open = append(open, i)
		}
	}
	for p := range primes(leastPrime) {
		if len(open) == 0 {
			break
		}
		open = s.boundBy(field{prime: p, vars: vars, seed: &s.seed}, open)
	}
}

// boundBy finds the bounds for some of the variables, by index, and returns those for which it did not: those in which both polynomials lose their leading coefficients.
func (s *search) boundBy(f field, open []int) (still []int) {
	depth := len(f.vars)
	a, b := f.image(s.left, depth), f.image(s.right, depth)
	points := make([]uint64, depth)
	for i := range points {
		points[i] = f.rem(f.seed.next())
	}
	for _, i := range open {
		v := f.vars[i]
		p, q := f.along(a, i, points, depth), f.along(b, i, points, depth)
		if p.deg() == s.leftDegrees[v] || q.deg() == s.rightDegrees[v] {
			s.most[v] = f.divisor(p, q).deg()
		} else {
			still = append(still, i)
		}
	}
	return still
}

// variables returns the numbers of the monomials of both polynomials.
func (s *search) variables() []int {
	var out []int
	for v := range s.most {
		if s.leftDegrees[v] > 0 || s.rightDegrees[v] > 0 {
			out = append(out, v)
		}
	}
	return out
}

// others returns the numbers of those monomials that are not in the greatest common divisor.
func (s *search) others() []int {
	var out []int
	for _, v := range s.variables() {
		if s.most[v] == 0 {
			out = append(out, v)
		}
	}
	return out
}

// isDivisor reports whether both polynomials are multiples of one that is their greatest common divisor then.
func (s *search) isDivisor(by multi) bool {
	left, ok := s.left.quotient(by)
	if !ok {
		return false
	}
	right, ok := s.right.quotient(by)
	s.found = shared{by, left, right}
	return ok
}

// withoutOthers finds the greatest common divisor by way of polynomials with integers in place of the monomials that are not in it: it divides these, too.
func (s *search) withoutOthers(others []int) shared {
	values := map[int]multi{}
	for most := uint64(64); ; most = min(2*most, 1<<wordBits) {
		for _, v := range others {
			values[v] = integer(num.Of(int(s.seed.next() % most)))
		}
		a, b := s.left.at(values), s.right.at(values)
		if a.isZero() || b.isZero() {
			continue
		}
		by := common(a, b).by
		by = by.over(integer(by.content(api.Int{})))
		if s.isDivisor(by) {
			return s.found
		}
	}
}

// lift finds the greatest common divisor, which has all the variables, by way of its images modulo prime numbers. That of most pairs of images is an image of it; all of the others have a higher highest term.
func (s *search) lift() shared {
	vars := s.variables()
	lead := num.Gcd(s.left.lead(), s.right.lead())
	var l lifted
	for p := range primes(leastPrime) {
		if p.residue(s.left.lead()) == 0 || p.residue(s.right.lead()) == 0 {
			continue
		}
		f := field{prime: p, vars: vars, most: s.most, seed: &s.seed}
		g := f.gcd(f.image(s.left, len(vars)), f.image(s.right, len(vars)), len(vars))
		if !l.add(f, f.scaled(g, f.residue(lead))) {
			continue
		}
		by := l.sum.over(integer(l.sum.content(api.Int{})))
		if s.isDivisor(by) {
			return s.found
		}
	}
	return shared{}
}
