package tower

import "quadratrix/api"

// PAdd returns p + q.
func PAdd(p, q []api.Elem) []api.Elem {
	return list(func() []api.Elem { return plain(elems(p).plus(elems(q))) })
}

// PSub returns p - q.
func PSub(p, q []api.Elem) []api.Elem {
	return list(func() []api.Elem { return plain(elems(p).minus(elems(q))) })
}

// PMul returns p q.
func PMul(p, q []api.Elem) []api.Elem {
	return list(func() []api.Elem {
		n := above(p, q)
		a, c := cleared(n, p)
		b, d := cleared(n, q)
		product := ratio{joined(n, a), c}.times(ratio{joined(n, b), d})
		return spread(product.num.powers(n), product.den)
	})
}

// PScale returns a p.
func PScale(p []api.Elem, a api.Elem) []api.Elem {
	return list(func() []api.Elem { return plain(elems(p).scaled(elem(a))) })
}

// PDivMod returns the quotient and the remainder of p by q.
func PDivMod(p, q []api.Elem) (quo, rem []api.Elem, err api.Errno) {
	if len(q) == 0 {
		return nil, nil, api.ErrZero
	}
	_, err = safely(func() bool {
		quo, rem = divide(p, q)
		return true
	})
	return quo, rem, err
}

// divide returns the quotient and the remainder of p by q, which is not zero.
func divide(p, q []api.Elem) (quo, rem []api.Elem) {
	n := above(p, q)
	a, c := cleared(n, p)
	b, d := cleared(n, q)
	over, rest, scale := pseudo(a, b)
	// With a = c p, b = d q and scale a = over b + rest: p = (d over / (c scale)) q + rest / (c scale).
	all := c.times(scale)
	s := common(d, all)
	return spread(over.scaled(s.left), s.right), spread(rest, all)
}

// pseudo returns a quotient and a remainder of p by q, which is not zero, where p is multiplied by scale. Only what the leading coefficient of q does not divide makes it greater.
func pseudo(p, q poly[multi]) (quo, rem poly[multi], scale multi) {
	n := len(q) - 1
	rem, scale = p.extended(0), unity()
	quo = make(poly[multi], max(0, len(p)-n))
	steps := make(poly[multi], len(quo)) // by what each step has multiplied p
	for k := range quo.down() {
		rem[k] = rem[k].times(scale)
		s := common(rem[k+n], q[n])
		quo[k], steps[k] = s.left, s.right
		if quo[k].isZero() {
			steps[k] = unity()
			continue
		}
		scale = scale.times(s.right)
		for i, c := range q[:n] {
			rem[k+i] = rem[k+i].times(s.right).minus(s.left.times(c))
		}
	}
	later := unity()
	for k := range quo {
		quo[k] = quo[k].times(later)
		later = later.times(steps[k])
	}
	return quo, rem[:min(n, len(rem))].trimmed(), scale
}

// PGcd returns the monic greatest common divisor of p and q.
func PGcd(p, q []api.Elem) []api.Elem {
	return list(func() []api.Elem {
		n := above(p, q)
		a, _ := cleared(n, p)
		b, _ := cleared(n, q)
		if len(a) == 0 && len(b) == 0 {
			return nil
		}
		g := common(joined(n, a), joined(n, b)).by.powers(n)
		return spread(g, g[len(g)-1])
	})
}

// PEval returns the value of a polynomial where a is put for its monomial.
func PEval(p []api.Elem, a api.Elem) api.Elem {
	out, _ := safely(func() api.Elem {
		x := ratioOf(a)
		coefficients, den := cleared(above(p), p)
		out, power := multi{}, unity()
		for i, c := range coefficients.down() {
			out = out.times(x.num).plus(c.times(power))
			if i > 0 {
				power = power.times(x.den)
			}
		}
		return api.Elem(quotient(out, den.times(power)))
	})
	return out
}

// above returns the number of a monomial that is above the levels of all coefficients.
func above(lists ...[]api.Elem) int {
	n := 1
	for _, l := range lists {
		for _, e := range l {
			n = max(n, e.Level+1)
		}
	}
	return n
}

// list returns the polynomial that work returns, and nothing if it leaves by a panic.
func list(work func() []api.Elem) []api.Elem {
	out, _ := safely(work)
	return out
}
