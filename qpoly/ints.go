package qpoly

import (
	"iter"
	"slices"

	"quadratrix/api"
	"quadratrix/num"
	"quadratrix/rat"
)

// ints is a polynomial with integer coefficients, the lowest one first, the last one not 0.
type ints []api.Int

// whole returns a polynomial as integer coefficients over a common denominator, which is above 0.
func whole(p []api.Rat) (n ints, d api.Int) {
	n, d, _ = rat.Common(p)
	return n, d
}

// over returns the polynomial p / d.
func over(p ints, d api.Int) []api.Rat {
	if isOne(d) {
		return each(p, func(_ int, a api.Int) api.Rat { return rat.Whole(a) })
	}
	return each(p, func(_ int, a api.Int) api.Rat {
		q, _ := rat.Make(a, d)
		return q
	})
}

// parts returns a polynomial other than 0 as a number times a primitive polynomial.
func parts(p []api.Rat) (api.Rat, ints) {
	n, d := whole(p)
	content, n := n.primitive()
	c, _ := rat.Make(content, d)
	return c, n
}

// Primitive returns a polynomial as a number times a primitive polynomial with integer coefficients.
func Primitive(p []api.Rat) (c api.Rat, n []api.Int, e api.Errno) {
	switch {
	case !sound(p):
		return api.Rat{}, nil, api.ErrArg
	case len(p) == 0:
		return api.Rat{}, nil, api.ErrZero
	}
	c, n = parts(p)
	return c, n, api.OK
}

// primitive returns a polynomial other than 0 as an integer times a primitive polynomial.
func (p ints) primitive() (content api.Int, n ints) {
	for _, a := range p {
		content = num.Gcd(content, a)
		if isOne(content) {
			break
		}
	}
	if num.Sign(p.lead()) < 0 {
		content = num.Neg(content)
	}
	if isOne(content) {
		return content, p
	}
	return content, each(p, func(_ int, a api.Int) api.Int {
		q, _, _ := num.Div(a, content)
		return q
	})
}

// monic returns a polynomial divided by its leading coefficient.
func (p ints) monic() []api.Rat {
	return over(p, p.lead())
}

func (p ints) deg() int {
	return len(p) - 1
}

// lead returns the leading coefficient of a polynomial other than 0.
func (p ints) lead() api.Int {
	return p[len(p)-1]
}

// bits returns the greatest number of bits of a coefficient.
func (p ints) bits() int {
	most := 0
	for _, a := range p {
		most = max(most, num.Bits(a))
	}
	return most
}

func (p ints) plus(q ints) ints {
	return cut(merge(p, q, api.Int{}, num.Add), num.Sign)
}

func (p ints) minus(q ints) ints {
	return cut(merge(p, q, api.Int{}, num.Sub), num.Sign)
}

// deriv returns the derivative of a polynomial other than 0.
func (p ints) deriv() ints {
	return each(p[1:], func(i int, a api.Int) api.Int { return num.Mul(a, num.Of(i+1)) })
}

// quotient returns p / q, for q other than 0, and whether this is a polynomial with integer coefficients.
func (p ints) quotient(q ints) (ints, bool) {
	if len(p) < len(q) {
		return nil, len(p) == 0
	}
	d := divide(p, q)
	out := make(ints, len(p)-len(q)+1)
	for k, term := range d.terms() {
		if !isOne(d.scale) {
			return nil, false
		}
		out[k] = term
	}
	return out, len(d.remainder()) == 0
}

// exact returns p / q, which is known to be a polynomial with integer coefficients.
func (p ints) exact(q ints) ints {
	out, _ := p.quotient(q)
	return out
}

// division is a long division of integer polynomials. Where the leading coefficient of the divisor does not divide the one that it meets, the dividend is multiplied.
type division struct {
	by    ints
	rest  ints    // what is left: only coefficients that were met are multiplied by scale
	scale api.Int // by what the dividend has been multiplied; above 0
}

// divide returns the division of p by q, which is not 0, ahead of its first step.
func divide(p, q ints) *division {
	return &division{by: q, rest: slices.Clone(p), scale: unity()}
}

// terms takes the steps, and yields the terms of the quotient behind them: the exponent, and the coefficient, which scale is to divide.
func (d *division) terms() iter.Seq2[int, api.Int] {
	return func(yield func(int, api.Int) bool) {
		for k := len(d.rest) - len(d.by); k >= 0; k-- {
			if !yield(k, d.step(k)) {
				return
			}
		}
	}
}

// step takes the step of the exponent k, and returns the coefficient of the quotient.
func (d *division) step(k int) api.Int {
	n := d.by.deg()
	d.rest[k] = num.Mul(d.rest[k], d.scale)
	f, _ := rat.Make(d.rest[k+n], d.by.lead())
	if num.Sign(f.N) == 0 {
		return api.Int{}
	}
	met := d.rest[k : k+n]
	if !isOne(f.D) {
		d.scale = num.Mul(d.scale, f.D)
		for i, a := range met {
			met[i] = num.Mul(a, f.D)
		}
	}
	for i, b := range d.by[:n] {
		met[i] = num.Sub(met[i], num.Mul(f.N, b))
	}
	return f.N
}

// remainder returns the remainder, times scale, behind the last step.
func (d *division) remainder() ints {
	return cut(d.rest[:min(d.by.deg(), len(d.rest))], num.Sign)
}

// Div divides with remainder.
func Div(p, q []api.Rat) (quo, rem []api.Rat, e api.Errno) {
	switch {
	case !sound(p, q):
		return nil, nil, api.ErrArg
	case len(q) == 0:
		return nil, nil, api.ErrZero
	}
	n, den := whole(p)
	c, by := parts(q)
	unit, _ := rat.Div(rat.Whole(unity()), rat.Mul(c, rat.Whole(den)))
	d := divide(n, by)
	quo = make([]api.Rat, max(0, len(p)-len(q)+1))
	for k, term := range d.terms() {
		a, _ := rat.Make(term, d.scale)
		quo[k] = rat.Mul(a, unit)
	}
	return quo, over(d.remainder(), num.Mul(d.scale, den)), api.OK
}
