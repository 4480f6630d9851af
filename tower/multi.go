package tower

import (
	"slices"

	"quadratrix/api"
	"quadratrix/num"
)

// multi is a polynomial with integer coefficients in several monomials, of which level is the number of the last one that is in it. At level 0 it is the integer n; above, list is a polynomial in this monomial, of a degree above 0, whose coefficients have lower levels.
type multi struct {
	level int
	n     api.Int
	list  poly[multi]
}

// integer returns an integer as a polynomial.
func integer(n api.Int) multi {
	return multi{n: n}
}

func unity() multi {
	return integer(num.Of(1))
}

// joined returns the polynomial in a monomial with these coefficients, which may have zeros at the end.
func joined(level int, list poly[multi]) multi {
	list = list.trimmed()
	switch len(list) {
	case 0:
		return multi{}
	case 1:
		return list[0]
	}
	return multi{level: level, list: list}
}

// powers returns the coefficients of the powers of a monomial from the level on.
func (a multi) powers(level int) poly[multi] {
	switch {
	case a.isZero():
		return nil
	case a.level == level:
		return a.list
	}
	return poly[multi]{a}
}

func (multi) zero() multi {
	return multi{}
}

func (a multi) isZero() bool {
	return a.level == 0 && len(a.n.Abs) == 0
}

func (a multi) isOne() bool {
	return a.level == 0 && isUnity(a.n)
}

func (a multi) same(b multi) bool {
	return a.level == b.level && sameInt(a.n, b.n) && slices.EqualFunc(a.list, b.list, multi.same)
}

func (a multi) plus(b multi) multi {
	switch {
	case a.isZero():
		return b
	case b.isZero():
		return a
	case a.level < b.level:
		return b.plus(a)
	case a.level > b.level:
		list := slices.Clone(a.list)
		list[0] = list[0].plus(b)
		return multi{level: a.level, list: list}
	case a.level == 0:
		return integer(num.Add(a.n, b.n))
	}
	return joined(a.level, a.list.plus(b.list))
}

func (a multi) minus(b multi) multi {
	switch {
	case b.isZero():
		return a
	case a.level == 0 && b.level == 0:
		return integer(num.Sub(a.n, b.n))
	case a.level == b.level:
		return joined(a.level, a.list.minus(b.list))
	}
	return a.plus(b.negated())
}

func (a multi) negated() multi {
	return a.eachInteger(num.Neg)
}

// eachInteger returns the polynomial with the coefficients that f makes of those other than 0; they are not 0 either.
func (a multi) eachInteger(f func(api.Int) api.Int) multi {
	switch {
	case a.isZero():
		return a
	case a.level == 0:
		return integer(f(a.n))
	}
	list := make(poly[multi], len(a.list))
	for i, c := range a.list {
		list[i] = c.eachInteger(f)
	}
	return multi{level: a.level, list: list}
}

func (a multi) times(b multi) multi {
	switch {
	case a.isZero() || b.isOne():
		return a
	case b.isZero() || a.isOne():
		return b
	case a.level < b.level:
		return b.times(a)
	case a.level > b.level:
		return multi{level: a.level, list: a.list.scaled(b)}
	case a.level == 0:
		return integer(num.Mul(a.n, b.n))
	case a.level == 1:
		return multi{level: 1, list: product(a.list, b.list)}
	}
	return multi{level: a.level, list: a.list.times(b.list)}
}

// power returns the k-th power, for k above 0. The bits of k are gone through from the highest one on, so that one factor of each product is a, or a square is taken.
func (a multi) power(k int) multi {
	if k == 1 {
		return a
	}
	half := a.power(k / 2)
	if k%2 == 0 {
		return half.times(half)
	}
	return half.times(half).times(a)
}

// inexact is the value of the panic of a division that leaves a remainder.
type inexact struct{}

// over returns the quotient of a and b, which is not 0; it leaves by a panic if this is no polynomial.
func (a multi) over(b multi) multi {
	switch {
	case a.isZero() || b.isOne():
		return a
	case a.level < b.level:
		panic(inexact{})
	case b.level == 0:
		return a.eachInteger(func(n api.Int) api.Int { return exact(n, b.n) })
	case a.level > b.level:
		return multi{level: a.level, list: a.list.reduced(b)}
	}
	quo, rem := a.list.divided(b.list)
	if len(rem) > 0 {
		panic(inexact{})
	}
	return joined(a.level, quo)
}

// exact returns the quotient of two integers; it leaves by a panic if this is no integer.
func exact(a, b api.Int) api.Int {
	quo, rem, _ := num.Div(a, b)
	if num.Sign(rem) != 0 {
		panic(inexact{})
	}
	return quo
}

// quotient returns the quotient of a and b, which is not 0, and whether there is one.
func (a multi) quotient(b multi) (quo multi, ok bool) {
	if a.degrees().under(b.degrees()) && !a.isZero() {
		return multi{}, false
	}
	defer func() {
		if fail := recover(); fail != nil {
			if _, known := fail.(inexact); !known {
				panic(fail)
			}
		}
	}()
	return a.over(b), true
}

// lead returns the last coefficient, as far down as it goes: an integer.
func (a multi) lead() api.Int {
	for a.level > 0 {
		a = a.list[len(a.list)-1]
	}
	return a.n
}

// upright returns a or its opposite, with a lead above 0.
func (a multi) upright() multi {
	if a.lead().Neg {
		return a.negated()
	}
	return a
}

// content returns the greatest common divisor of all integers in a and of n.
func (a multi) content(n api.Int) api.Int {
	switch {
	case isUnity(n):
		return n
	case a.level == 0:
		return num.Gcd(a.n, n)
	}
	for _, c := range a.list.down() {
		n = c.content(n)
	}
	return n
}

// degrees are the degrees of a polynomial in the monomials; those of t_n stand at n.
type degrees [api.MaxTower + 2]int

// degrees returns the degrees of a; those of zero are 0.
func (a multi) degrees() degrees {
	var out degrees
	a.raise(&out)
	return out
}

// raise raises degrees to those of a where these are greater.
func (a multi) raise(to *degrees) {
	if a.level == 0 {
		return
	}
	to[a.level] = max(to[a.level], len(a.list)-1)
	for _, c := range a.list {
		c.raise(to)
	}
}

// under reports whether a degree is less than that of b.
func (d degrees) under(b degrees) bool {
	for i, k := range d {
		if k < b[i] {
			return true
		}
	}
	return false
}

// at returns the polynomial with integers in place of those monomials for which there is one.
func (a multi) at(values map[int]multi) multi {
	if a.level == 0 {
		return a
	}
	x, ok := values[a.level]
	if !ok {
		list := make(poly[multi], len(a.list))
		for i, c := range a.list {
			list[i] = c.at(values)
		}
		return joined(a.level, list)
	}
	out := multi{}
	for _, c := range a.list.down() {
		out = out.times(x).plus(c.at(values))
	}
	return out
}
