package tower

import (
	"quadratrix/api"
	"quadratrix/num"
	"quadratrix/rat"
)

// ratio is a quotient of two polynomials with integer coefficients that have no common divisor. It stands for an element: the coefficients of an element are quotients themselves, and to add or to multiply them one by one would be to cancel each time.
type ratio struct {
	num, den multi
}

// ratioOf returns an element as a quotient.
func ratioOf(e api.Elem) ratio {
	switch {
	case e.Level == 0 && num.Is(e.Q.N) && num.Is(e.Q.D) && num.Sign(e.Q.D) > 0:
		return ratio{integer(e.Q.N), integer(e.Q.D)}
	case e.Level < 1 || e.Level > api.MaxTower || len(e.Num) == 0 || len(e.Den) == 0:
		panic(api.ErrArg)
	}
	p, d := cleared(e.Level, e.Num)
	q, c := cleared(e.Level, e.Den)
	// Neither p and d have a common divisor, nor q and c, which is the last coefficient of q: so nothing divides q but what has the monomial, and what can be cancelled is in c and d.
	s := common(c, d)
	return ratio{joined(e.Level, p).times(s.left), joined(e.Level, q).times(s.right)}
}

// cleared returns the coefficients of a polynomial in the monomial n, multiplied by their least common denominator, and this.
func cleared(n int, list []api.Elem) (poly[multi], multi) {
	ratios := make([]ratio, len(list))
	den := unity()
	for i, e := range list {
		if e.Level >= n {
			panic(api.ErrArg)
		}
		ratios[i] = ratioOf(e)
		if !ratios[i].den.isOne() && !ratios[i].den.same(den) {
			den = den.times(common(den, ratios[i].den).right)
		}
	}
	out := make(poly[multi], len(list))
	for i, r := range ratios {
		out[i] = r.num
		if !r.den.same(den) {
			out[i] = r.num.times(den.over(r.den))
		}
	}
	return out.trimmed(), den
}

// elem returns the element that a quotient is.
func (r ratio) elem() elem {
	switch {
	case r.num.isZero():
		return elem(Whole(0))
	case r.den.level == 0:
		return overInteger(r.num, r.den.n)
	}
	level := max(r.num.level, r.den.level)
	den := r.den.powers(level)
	last := den[len(den)-1]
	return elem{Level: level, Num: spread(r.num.powers(level), last), Den: spread(den, last)}
}

// spread returns the coefficients of p, divided by d, as elements.
func spread(p poly[multi], d multi) []api.Elem {
	out := make([]api.Elem, len(p))
	for i, c := range p {
		out[i] = api.Elem(quotient(c, d))
	}
	return out
}

// quotient returns the element p / q; it leaves by a panic if q is zero.
func quotient(p, q multi) elem {
	switch {
	case q.isZero():
		panic(api.ErrZero)
	case q.level == 0 || p.isZero():
		return ratio{p, q}.elem()
	}
	s := common(p, q)
	return ratio{s.left, s.right}.elem()
}

// overInteger returns the element p / d.
func overInteger(p multi, d api.Int) elem {
	if p.level == 0 {
		q, _ := rat.Make(p.n, d)
		return elem(Rat(q))
	}
	list := make([]api.Elem, len(p.list))
	for i, c := range p.list {
		list[i] = api.Elem(overInteger(c, d))
	}
	return elem{Level: p.level, Num: list, Den: []api.Elem{Whole(1)}}
}

func (r ratio) plus(s ratio) ratio {
	den := common(r.den, s.den)
	sum := r.num.times(den.right).plus(s.num.times(den.left))
	// The sum has no divisor in common with what the denominators do not share.
	rest := common(sum, den.by)
	return ratio{rest.left, den.left.times(den.right).times(rest.right)}
}

// times returns the product of two quotients other than 0. What can be cancelled in it can be cancelled crosswise.
func (r ratio) times(s ratio) ratio {
	a, b := common(r.num, s.den), common(s.num, r.den)
	return ratio{a.left.times(b.left), a.right.times(b.right)}
}

// inverse returns the inverse of a quotient other than 0.
func (r ratio) inverse() ratio {
	return ratio{r.den, r.num}
}
