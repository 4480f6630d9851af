package qpoly

import "quadratrix/api"

// Squarefree returns the squarefree parts of a polynomial, by multiplicity.
func Squarefree(p []api.Rat) (c api.Rat, parts [][]api.Rat, e api.Errno) {
	switch {
	case !sound(p):
		return api.Rat{}, nil, api.ErrArg
	case len(p) == 0:
		return api.Rat{}, nil, api.ErrZero
	}
	return Lead(p), yun(p), api.OK
}

// yun returns the squarefree parts of a polynomial other than 0. What is left behind each of them is the product of the parts with higher multiplicities, each once.
func yun(p []api.Rat) [][]api.Rat {
	if len(p) == 1 {
		return nil
	}
	_, f := parts(p)
	list := make([][]api.Rat, 0, f.deg())
	slope := f.deriv()
	repeated := gcd(f, slope)
	left, d := f.exact(repeated), slope.exact(repeated)
next:
	for {
		d = d.minus(left.deriv())
		part := left
		if len(d) > 0 {
			part = gcd(left, d)
		}
		list = append(list, part.monic())
		left, d = left.exact(part), d.exact(part)
		if left.deg() > 0 {
			continue next
		}
		// Nobody who appends to the list finds room in it.
		return list[:len(list):len(list)]
	}
}

// squarefree returns the product of all squarefree parts of a primitive polynomial, each once.
func (p ints) squarefree() ints {
	if p.deg() == 0 {
		return p
	}
	return p.exact(gcd(p, p.deriv()))
}
