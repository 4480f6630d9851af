package tower

import (
	"slices"

	"quadratrix/api"
	"quadratrix/num"
	"quadratrix/rat"
)

// elem is an element with the operations of a ring. Where the levels of two elements differ, or both are polynomials, what is asked for is found coefficient by coefficient; otherwise as a quotient of polynomials with integer coefficients.
type elem api.Elem

func (elem) zero() elem {
	return elem(Whole(0))
}

func (a elem) isZero() bool {
	return IsZero(api.Elem(a))
}

func (a elem) isOne() bool {
	return isOne(api.Elem(a))
}

// isPolynomial reports whether a is a polynomial in the monomial of its level.
func (a elem) isPolynomial() bool {
	return len(a.Den) == 1
}

func (a elem) ratio() ratio {
	return ratioOf(api.Elem(a))
}

func (a elem) plus(b elem) elem {
	switch {
	case a.isZero():
		return b
	case b.isZero():
		return a
	case a.Level == 0 && b.Level == 0:
		return elem(Rat(rat.Add(a.Q, b.Q)))
	case a.Level < b.Level:
		return b.plusLower(a)
	case a.Level > b.Level:
		return a.plusLower(b)
	case a.isPolynomial() && b.isPolynomial():
		return whole(a.Level, elems(a.Num).plus(elems(b.Num)))
	}
	return a.ratio().plus(b.ratio()).elem()
}

// plusLower returns a + b for b of a lower level: numerator and denominator stay coprime.
func (a elem) plusLower(b elem) elem {
	if !a.isPolynomial() {
		return elem{Level: a.Level, Num: plain(elems(a.Num).plus(elems(a.Den).scaled(b))), Den: a.Den}
	}
	list := slices.Clone(a.Num)
	list[0] = api.Elem(elem(list[0]).plus(b))
	return elem{Level: a.Level, Num: list, Den: a.Den}
}

func (a elem) minus(b elem) elem {
	return a.plus(b.negated())
}

func (a elem) negated() elem {
	if a.Level == 0 {
		return elem(Rat(rat.Neg(a.Q)))
	}
	list := make([]api.Elem, len(a.Num))
	for i, c := range a.Num {
		list[i] = api.Elem(elem(c).negated())
	}
	return elem{Level: a.Level, Num: list, Den: a.Den}
}

func (a elem) times(b elem) elem {
	switch {
	case a.isZero() || b.isOne():
		return a
	case b.isZero() || a.isOne():
		return b
	case a.Level == 0 && b.Level == 0:
		return elem(Rat(rat.Mul(a.Q, b.Q)))
	case a.Level < b.Level:
		return b.timesLower(a)
	case a.Level > b.Level:
		return a.timesLower(b)
	case a.isPolynomial() && b.isPolynomial():
		return elem{Level: a.Level, Num: PMul(a.Num, b.Num), Den: a.Den}
	}
	return a.ratio().times(b.ratio()).elem()
}

// timesLower returns a b for b of a lower level, other than 0.
func (a elem) timesLower(b elem) elem {
	return elem{Level: a.Level, Num: plain(elems(a.Num).scaled(b)), Den: a.Den}
}

// over returns a / b; it leaves by a panic if b is 0.
func (a elem) over(b elem) elem {
	switch {
	case b.isZero():
		panic(api.ErrZero)
	case a.isZero() || b.isOne():
		return a
	case a.Level == b.Level && a.Level > 0:
		return a.ratio().times(b.ratio().inverse()).elem()
	}
	return a.times(b.inverse())
}

// inverse returns 1 / a, for a other than 0.
func (a elem) inverse() elem {
	if a.Level == 0 {
		q, _ := rat.Div(rat.Whole(num.Of(1)), a.Q)
		return elem(Rat(q))
	}
	last := elem(a.Num[len(a.Num)-1]).inverse()
	return elem{Level: a.Level, Num: plain(elems(a.Den).scaled(last)), Den: plain(elems(a.Num).scaled(last))}
}

// power returns the k-th power of an element, for k above 0. Numerator and denominator stay coprime.
func (a elem) power(k int) elem {
	if a.Level == 0 {
		n, d := integer(a.Q.N).power(k), integer(a.Q.D).power(k)
		return elem(Rat(api.Rat{N: n.n, D: d.n}))
	}
	return elem{Level: a.Level, Num: listPower(a.Level, a.Num, k), Den: listPower(a.Level, a.Den, k)}
}

// listPower returns the k-th power of a polynomial other than 0 in the monomial n, for k above 0.
func listPower(n int, list []api.Elem, k int) []api.Elem {
	p, d := cleared(n, list)
	return spread(joined(n, p).power(k).powers(n), d.power(k))
}

// whole returns a polynomial in the monomial n as an element.
func whole(n int, p poly[elem]) elem {
	switch len(p) {
	case 0:
		return elem(Whole(0))
	case 1:
		return p[0]
	}
	return elem{Level: n, Num: plain(p), Den: []api.Elem{Whole(1)}}
}

// elems returns a list of elements as a polynomial.
func elems(list []api.Elem) poly[elem] {
	out := make(poly[elem], len(list))
	for i, e := range list {
		out[i] = elem(e)
	}
	return out
}

// plain returns the coefficients of a polynomial.
func plain(p poly[elem]) []api.Elem {
	out := make([]api.Elem, len(p))
	for i, e := range p {
		out[i] = api.Elem(e)
	}
	return out
}
