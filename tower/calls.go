package tower

import (
	"quadratrix/api"
	"quadratrix/num"
	"quadratrix/rat"
)

// minPower and maxPower are the exponents that Pow takes.
const (
	minPower = -1000
	maxPower = 1000
)

// safely returns what work does, or the error by which it leaves. A panic that is no error number comes of arguments that are not valid, for which nothing is asked.
func safely[T any](work func() T) (out T, err api.Errno) {
	defer func() {
		switch fail := recover().(type) {
		case nil:
		case api.Errno:
			err = fail
		default:
			err = api.ErrArg
		}
	}()
	return work(), api.OK
}

// operation returns what a sign says, as a function of two elements.
func operation(sign byte) func(a, b elem) elem {
	table := [...]struct {
		sign byte
		do   func(a, b elem) elem
	}{{'+', elem.plus}, {'-', elem.minus}, {'*', elem.times}, {'/', elem.over}}
	for _, row := range table {
		if row.sign == sign {
			return row.do
		}
	}
	return nil
}

// calculate returns the result of an operation, or the error by which it leaves.
func calculate(a api.Elem, sign byte, b api.Elem) (api.Elem, api.Errno) {
	return safely(func() api.Elem { return api.Elem(operation(sign)(elem(a), elem(b))) })
}

// Add returns a + b.
func Add(a, b api.Elem) api.Elem {
	sum, _ := calculate(a, '+', b)
	return sum
}

// Sub returns a - b.
func Sub(a, b api.Elem) api.Elem {
	difference, _ := calculate(a, '-', b)
	return difference
}

// Neg returns -a.
func Neg(a api.Elem) api.Elem {
	opposite, _ := safely(func() api.Elem { return api.Elem(elem(a).negated()) })
	return opposite
}

// Mul returns a b.
func Mul(a, b api.Elem) api.Elem {
	product, _ := calculate(a, '*', b)
	return product
}

// Div returns a / b.
func Div(a, b api.Elem) (api.Elem, api.Errno) {
	return calculate(a, '/', b)
}

// Pow returns the k-th power of a.
func Pow(a api.Elem, k int) (api.Elem, api.Errno) {
	switch {
	case k < minPower || k > maxPower:
		return api.Elem{}, api.ErrArg
	case k == 0:
		return Whole(1), api.OK
	case k < 0 && IsZero(a):
		return api.Elem{}, api.ErrZero
	}
	return safely(func() api.Elem {
		if k < 0 {
			return api.Elem(elem(a).inverse().power(-k))
		}
		return api.Elem(elem(a).power(k))
	})
}

// Num returns the numerator of an element of K_n.
func Num(n int, e api.Elem) []api.Elem {
	switch {
	case e.Level == n && n > 0:
		return e.Num
	case IsZero(e):
		return nil
	}
	return []api.Elem{e}
}

// Den returns the denominator of an element of K_n.
func Den(n int, e api.Elem) []api.Elem {
	if e.Level == n && n > 0 {
		return e.Den
	}
	return []api.Elem{Whole(1)}
}

// Frac returns the quotient of two polynomials in the monomial n.
func Frac(n int, p, q []api.Elem) (api.Elem, api.Errno) {
	return safely(func() api.Elem {
		a, d := cleared(n, p)
		b, c := cleared(n, q)
		return api.Elem(quotient(joined(n, a).times(c), joined(n, b).times(d)))
	})
}

// At returns the value of an element at a point.
func At(e api.Elem, point []api.Rat) (api.Rat, api.Errno) {
	if e.Level > len(point) {
		return api.Rat{}, api.ErrArg
	}
	return safely(func() api.Rat { return value(e, point) })
}

// value returns the value of an element at a point that is long enough; it leaves by a panic if a denominator becomes 0 there.
func value(e api.Elem, point []api.Rat) api.Rat {
	if e.Level == 0 {
		return e.Q
	}
	lower, x := point[:e.Level-1], point[e.Level-1]
	n, d := listValue(e.Num, lower, x), listValue(e.Den, lower, x)
	q, err := rat.Div(n, d)
	if err != api.OK {
		panic(err)
	}
	return q
}

// listValue returns the value of a polynomial at x, its coefficients taken at a point.
func listValue(list []api.Elem, point []api.Rat, x api.Rat) api.Rat {
	out := rat.Whole(num.Of(0))
	for _, c := range elems(list).down() {
		out = rat.Add(rat.Mul(out, x), value(api.Elem(c), point))
	}
	return out
}
