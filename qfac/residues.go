package qfac

import (
	"quadratrix/api"
	"quadratrix/num"
	"quadratrix/rat"
)

// integer is a kind of integers: residues are ints where callers see them, short words where they do not, and long ones ahead of being reduced.
type integer interface {
	int | uint32 | uint64
}

// poly is a polynomial modulo a prime number: the coefficients are residues, the lowest one first, the last one not 0.
type poly[T integer] []T

// field is the field of the residues modulo a prime number m. Products are summed up as uint64 ahead of being reduced, so m is short enough if m^2, times the number of terms of a polynomial, is below 2^64.
type field[T integer] struct {
	m        uint64
	inverses [api.MaxPrime]T // those of the residues below its length
}

func newField[T integer](m int) *field[T] {
	f := &field[T]{m: uint64(m)}
	f.inverses[1] = 1
	for a := 2; a < min(m, len(f.inverses)); a++ {
		f.inverses[a] = T(f.byRemainder(uint64(a)))
	}
	return f
}

// inverse returns 1 / a, for a residue other than 0.
func (f *field[T]) inverse(a uint64) uint64 {
	if a < uint64(len(f.inverses)) {
		return uint64(f.inverses[a])
	}
	return f.byRemainder(a)
}

// byRemainder returns 1 / a by the inverse of a lesser residue: m = q a + r makes q a the opposite of r.
func (f *field[T]) byRemainder(a uint64) uint64 {
	return (f.m - f.m/a) * f.inverse(f.m%a) % f.m
}

// residues returns a polynomial with integer coefficients modulo m.
func residues[T integer](p []api.Int, m int) poly[T] {
	by := num.Of(m)
	out := make(poly[T], len(p))
	for i, a := range p {
		_, r, _ := num.Div(a, by)
		n, _ := num.Small(r)
		out[i] = T(n)
	}
	return cut(out, isZero)
}

// whole returns a polynomial over the rational numbers with the residues as coefficients.
func (p poly[T]) whole() []api.Rat {
	out := make([]api.Rat, len(p))
	for i, a := range p {
		out[i] = rat.Whole(num.Of(int(a)))
	}
	return out
}

// cut returns the list without the zeros at its end.
func cut[T any](list []T, isZero func(a T) bool) []T {
	n := len(list)
	for n > 0 && isZero(list[n-1]) {
		n--
	}
	return list[:n]
}

func isZero[T integer](a T) bool {
	return a == 0
}

func (p poly[T]) deg() int {
	return len(p) - 1
}

// isModulo reports whether p is a polynomial modulo m.
func (p poly[T]) isModulo(m T) bool {
	for _, a := range p {
		if a < 0 || a >= m {
			return false
		}
	}
	return len(p) == 0 || p[p.deg()] != 0
}

// reduce returns the polynomial of sums that are not reduced yet.
func (f *field[T]) reduce(sums poly[uint64]) poly[T] {
	out := make(poly[T], len(sums))
	for i, a := range sums {
		out[i] = T(a % f.m)
	}
	return cut(out, isZero)
}

// sums returns the coefficients of p as sums to which products can be added, n at least.
func (p poly[T]) sums(n int) poly[uint64] {
	out := make(poly[uint64], max(n, len(p)))
	for i, a := range p {
		out[i] = uint64(a)
	}
	return out
}

// add adds c p to as many sums.
func (p poly[T]) add(sums poly[uint64], c uint64) {
	for i, a := range p {
		sums[i] += c * uint64(a)
	}
}

func (f *field[T]) mul(p, q poly[T]) poly[T] {
	sums := make(poly[uint64], len(p)+len(q))
	for i, a := range p {
		q.add(sums[i:], uint64(a))
	}
	return f.reduce(sums)
}

func (f *field[T]) sub(p, q poly[T]) poly[T] {
	sums := p.sums(len(q))
	q.add(sums, f.m-1)
	return f.reduce(sums)
}

// plus returns p + c.
func (f *field[T]) plus(p poly[T], c uint64) poly[T] {
	sums := p.sums(1)
	sums[0] += c
	return f.reduce(sums)
}

// monic returns a polynomial other than 0 divided by its leading coefficient.
func (f *field[T]) monic(p poly[T]) poly[T] {
	return f.scale(p, f.inverse(uint64(p[p.deg()])))
}

func (f *field[T]) scale(p poly[T], c uint64) poly[T] {
	sums := make(poly[uint64], len(p))
	p.add(sums, c)
	return f.reduce(sums)
}

func (f *field[T]) deriv(p poly[T]) poly[T] {
	sums := make(poly[uint64], max(0, p.deg()))
	for i := range sums {
		sums[i] = uint64(p[i+1]) * uint64(i+1)
	}
	return f.reduce(sums)
}

// divide returns the quotient and the remainder of p and q, which is not 0.
func (f *field[T]) divide(p, q poly[T]) (quo, rem poly[T]) {
	n := q.deg()
	inverse := f.inverse(uint64(q[n]))
	rest := p.sums(0)
	quo = make(poly[T], max(0, len(p)-n))
	for k := len(quo) - 1; k >= 0; k-- {
		c := rest[k+n] % f.m * inverse % f.m
		quo[k] = T(c)
		if c != 0 {
			q[:n].add(rest[k:], f.m-c)
		}
	}
	return quo, f.reduce(rest[:min(n, len(p))])
}

func (f *field[T]) quo(p, q poly[T]) poly[T] {
	out, _ := f.divide(p, q)
	return out
}

func (f *field[T]) rem(p, q poly[T]) poly[T] {
	_, out := f.divide(p, q)
	return out
}

// gcd returns the monic greatest common divisor of two polynomials that are not both 0.
func (f *field[T]) gcd(p, q poly[T]) poly[T] {
	for len(q) > 0 {
		p, q = q, f.rem(p, q)
	}
	return f.monic(p)
}

// bezout returns polynomials with s p + t q = 1, the degree of t being less than that of p, which is not 0, and whether there are any.
func (f *field[T]) bezout(p, q poly[T]) (s, t poly[T], ok bool) {
	one := poly[T]{1}
	a, b := p, q
	ofA, ofB := poly[T]{}, one // a and b are these times q, up to multiples of p
	for len(b) > 0 {
		quo, rem := f.divide(a, b)
		a, b = b, rem
		ofA, ofB = ofB, f.sub(ofA, f.mul(quo, ofB))
	}
	if a.deg() > 0 {
		return nil, nil, false
	}
	t = f.rem(f.scale(ofA, f.inverse(uint64(a[0]))), p)
	return f.quo(f.sub(one, f.mul(t, q)), p), t, true
}

// isSquarefree reports whether no square of a polynomial of a degree above 0 divides p, which is not 0.
func (f *field[T]) isSquarefree(p poly[T]) bool {
	return f.gcd(p, f.deriv(p)).deg() == 0
}

// power returns p to the power n, modulo q; n is above 0.
func (f *field[T]) power(p poly[T], n uint64, q poly[T]) poly[T] {
	if n == 1 {
		return f.rem(p, q)
	}
	half := f.power(p, n/2, q)
	out := f.rem(f.mul(half, half), q)
	if n%2 == 1 {
		out = f.rem(f.mul(out, p), q)
	}
	return out
}
