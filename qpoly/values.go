package qpoly

import (
	"quadratrix/api"
	"quadratrix/num"
	"quadratrix/rat"
)

// Eval returns the value at a number.
func Eval(p []api.Rat, x api.Rat) api.Rat {
	switch {
	case !sound(p) || !soundNumber(x):
		return api.Rat{}
	case len(p) == 0:
		return nought()
	}
	l, d := whole(p)
	n := homogeneous(l, x.N, x.D, num.Add, num.Mul)
	value := overPower(ints{n}, x.D, Deg(p))[0]
	return rat.Mul(value, api.Rat{N: unity(), D: d})
}

// Compose returns p with q in the place of its variable.
func Compose(p, q []api.Rat) ([]api.Rat, api.Errno) {
	switch {
	case !sound(p, q):
		return nil, api.ErrArg
	case len(p) == 0:
		return nil, api.OK
	case Deg(p) > 0 && Deg(q) > 0 && Deg(p) > api.MaxTerms/Deg(q):
		return nil, api.ErrLimit
	}
	n, d := whole(p)
	a, b := whole(q)
	numbers := each(n, func(_ int, c api.Int) ints { return cut(ints{c}, num.Sign) })
	out := homogeneous(numbers, a, ints{b}, ints.plus, times)
	return Scale(overPower(out, b, Deg(p)), api.Rat{N: unity(), D: d}), api.OK
}

// homogeneous returns the sum of all l[i] a^i b^(n-i), n being the last index of l, which is not empty: halves are put together, so that the factors of long products have similar lengths.
func homogeneous[T any](l []T, a, b T, add, mul func(a, b T) T) T {
	if len(l) == 1 {
		return l[0]
	}
	half := len(l) / 2
	low := homogeneous(l[:half], a, b, add, mul)
	high := homogeneous(l[half:], a, b, add, mul)
	return add(mul(low, power(b, len(l)-half, mul)), mul(high, power(a, half, mul)))
}

// overPower returns p / d^n, for d above 0.
func overPower(p ints, d api.Int, n int) []api.Rat {
	if isOne(d) {
		return over(p, d)
	}
	bottom := raise(d, n)
	return each(p, func(_ int, a api.Int) api.Rat {
		if num.Sign(a) == 0 {
			return nought()
		}
		g := powerGcd(a, d, n)
		top, _, _ := num.Div(a, g)
		rest, _, _ := num.Div(bottom, g)
		return api.Rat{N: top, D: rest}
	})
}

// powerGcd returns the greatest common divisor of a, which is not 0, and d^n. Mostly it is short, and found by a few divisions of a by short numbers, faster than by Euclid's algorithm with d^n.
func powerGcd(a, d api.Int, n int) api.Int {
	out := unity()
	for range n {
		g := num.Gcd(a, d)
		if isOne(g) {
			break
		}
		a, _, _ = num.Div(a, g)
		out = num.Mul(out, g)
	}
	return out
}
