package tower

import (
	"iter"
	"slices"
)

// ring is what the coefficients of a polynomial can do: the elements of the levels below its monomial (elem), or the polynomials with integer coefficients in the monomials below (multi).
type ring[C any] interface {
	zero() C
	isZero() bool
	plus(C) C
	minus(C) C
	times(C) C
	over(C) C // leaves by a panic if there is no quotient
}

// poly is a polynomial in one monomial: its coefficients, the lowest one first, the last one not zero.
type poly[C ring[C]] []C

// down yields the coefficients with their exponents from the top.
func (p poly[C]) down() iter.Seq2[int, C] {
	return slices.Backward(p)
}

// trimmed returns a list without zeros at its end.
func (p poly[C]) trimmed() poly[C] {
	for i, c := range p.down() {
		if !c.isZero() {
			return p[:i+1]
		}
	}
	return nil
}

// extended returns a copy of p with zeros behind it, up to a length of at least n.
func (p poly[C]) extended(n int) poly[C] {
	out := make(poly[C], max(n, len(p)))
	copy(out, p)
	for i := len(p); i < n; i++ {
		out[i] = out[i].zero()
	}
	return out
}

func (p poly[C]) plus(q poly[C]) poly[C] {
	if len(p) < len(q) {
		p, q = q, p
	}
	out := slices.Clone(p)
	for i, c := range q {
		out[i] = out[i].plus(c)
	}
	return out.trimmed()
}

func (p poly[C]) minus(q poly[C]) poly[C] {
	out := p.extended(len(q))
	for i, c := range q {
		out[i] = out[i].minus(c)
	}
	return out.trimmed()
}

func (p poly[C]) times(q poly[C]) poly[C] {
	if len(p) == 0 || len(q) == 0 {
		return nil
	}
	out := poly[C]{}.extended(len(p) + len(q) - 1)
	for i, a := range p {
		if a.isZero() {
			continue
		}
		for k, b := range q {
			if !b.isZero() {
				out[i+k] = out[i+k].plus(a.times(b))
			}
		}
	}
	return out.trimmed()
}

func (p poly[C]) scaled(by C) poly[C] {
	if by.isZero() {
		return nil
	}
	out := make(poly[C], len(p))
	for i, c := range p {
		out[i] = c.times(by)
	}
	return out
}

// reduced returns p with all coefficients divided.
func (p poly[C]) reduced(by C) poly[C] {
	out := make(poly[C], len(p))
	for i, c := range p {
		out[i] = c.over(by)
	}
	return out
}

// divided returns the quotient and the remainder of p and q, which is not zero. It leaves by a panic if a coefficient has no quotient by the last one of q.
func (p poly[C]) divided(q poly[C]) (quo, rem poly[C]) {
	n := len(q) - 1
	rem = slices.Clone(p)
	quo = make(poly[C], max(0, len(p)-n))
	for k := range quo.down() {
		quo[k] = rem[k+n].over(q[n])
		if quo[k].isZero() {
			continue
		}
		for i, c := range q[:n] {
			rem[k+i] = rem[k+i].minus(quo[k].times(c))
		}
	}
	return quo, rem[:min(n, len(rem))].trimmed()
}
