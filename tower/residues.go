package tower

import "slices"

// residues is a polynomial in one variable modulo a prime number: its coefficients, the lowest one first, the last one not 0.
type residues []uint64

func (a residues) deg() int {
	return len(a) - 1
}

func (a residues) trimmed() residues {
	n := len(a)
	for n > 0 && a[n-1] == 0 {
		n--
	}
	return a[:n]
}

// value returns a at x.
func (p prime) value(a residues, x uint64) uint64 {
	out := uint64(0)
	for _, c := range slices.Backward(a) {
		out = p.rem(out*x + c)
	}
	return out
}

func (p prime) scale(a residues, by uint64) residues {
	out := make(residues, len(a))
	for i, c := range a {
		out[i] = p.mul(c, by)
	}
	return out
}

func (p prime) product(a, b residues) residues {
	if len(a) == 0 || len(b) == 0 {
		return nil
	}
	out := make(residues, len(a)+len(b)-1)
	for i, c := range a {
		p.add(out[i:], b, c)
	}
	return out
}

// add adds c b to a, in place; a is not shorter than b.
func (p prime) add(a, b residues, c uint64) {
	a = a[:len(b)]
	for i, x := range a {
		a[i] = p.rem(x + c*b[i])
	}
}

// remainder turns a into its remainder by b, which is not 0, in place.
func (p prime) remainder(a, b residues) residues {
	p.divide(a, b, nil)
	return a[:min(len(b)-1, len(a))].trimmed()
}

// quotient returns a / b, which is known to be a polynomial.
func (p prime) quotient(a, b residues) residues {
	if len(b) == 1 && b[0] == 1 {
		return a
	}
	quo := make(residues, max(0, len(a)-b.deg()))
	p.divide(slices.Clone(a), b, quo)
	return quo
}

// divide divides a by b, which is not 0: the remainder takes the first places of a, in place, and the quotient those of quo, if it is not nil.
func (p prime) divide(a, b, quo residues) {
	n := b.deg()
	inverse := p.inverse(b[n])
	for k := len(a) - len(b); k >= 0; k-- {
		c := p.mul(a[k+n], inverse)
		if quo != nil {
			quo[k] = c
		}
		if c != 0 {
			p.add(a[k:k+n], b[:n], p.m-c)
		}
	}
}

// divisor returns the monic greatest common divisor; of zeros it is zero.
func (p prime) divisor(a, b residues) residues {
	a, b = slices.Clone(a), slices.Clone(b)
	for len(b) > 1 {
		a, b = b, p.remainder(a, b)
	}
	if len(b) == 1 {
		return residues{1}
	}
	if len(a) == 0 {
		return nil
	}
	return p.scale(a, p.inverse(a[a.deg()]))
}

// basis returns for each of some different numbers the polynomial of least degree that is 1 there, and 0 at the others.
func (p prime) basis(at []uint64) []residues {
	all := residues{1}
	for _, x := range at {
		all = p.product(all, residues{p.neg(x), 1})
	}
	out := make([]residues, len(at))
	for i, x := range at {
		one := p.quotient(all, residues{p.neg(x), 1})
		out[i] = p.scale(one, p.inverse(p.value(one, x)))
	}
	return out
}
