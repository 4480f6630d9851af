package tower

import (
	"slices"

	"quadratrix/api"
	"quadratrix/num"
)

// lifted is a polynomial with integer coefficients whose images modulo some prime numbers are known. Each coefficient is the sum of digits, one for each prime number m, from -m/2 to m/2, which are multiplied by all prime numbers ahead of it: so digits that are not needed are 0, for coefficients below 0, too.
type lifted struct {
	sum       multi
	product   api.Int // of the prime numbers
	exponents []int   // of the highest term of the images
}

// add makes a further image known, and reports whether this may be the last one: it is the first one, or the polynomial is the same as without it. Of images with different highest terms those with a higher one are left out.
func (l *lifted) add(f field, t tree) bool {
	exponents := t.exponents()
	order := -1
	if l.exponents != nil {
		order = slices.Compare(exponents, l.exponents)
	}
	switch order {
	case 1:
		return false
	case -1:
		*l = lifted{product: num.Of(1), exponents: exponents}
	}
	step := digits{field: f, product: l.product, inverse: f.inverse(f.residue(l.product)), same: true}
	l.sum = step.add(l.sum, t, len(f.vars))
	l.product = num.Mul(l.product, num.Of(int(f.m)))
	return step.same || order != 0
}

// digits adds the digits of one prime number.
type digits struct {
	field
	product api.Int // of the prime numbers ahead
	inverse uint64  // of the product
	same    bool    // all digits so far are 0
}

// add returns a with the digits that make t of a depth its image.
func (d *digits) add(a multi, t tree, depth int) multi {
	v := d.vars[depth-1]
	list := a.powers(v).extended(max(len(t.list), len(t.residues)))
	for i, c := range list {
		switch {
		case depth == 1 && i < len(t.residues):
			list[i] = d.digit(c, t.residues[i])
		case depth == 1:
			list[i] = d.digit(c, 0)
		case i < len(t.list):
			list[i] = d.add(c, t.list[i], depth-1)
		default:
			list[i] = d.add(c, tree{}, depth-1)
		}
	}
	return joined(v, list)
}

// digit returns an integer with the digit that makes r its residue.
func (d *digits) digit(a multi, r uint64) multi {
	digit := d.mul(r+d.m-d.residue(a.n), d.inverse)
	if digit == 0 {
		return a
	}
	d.same = false
	return integer(num.Add(a.n, num.Mul(d.product, num.Of(d.centred(digit)))))
}
