package tower

import (
	"iter"
	"slices"
)

// tree is a polynomial in one or more variables modulo a prime number. Its depth is the number of the variables. At depth 1 it is a polynomial in the first variable; above, list has the coefficients of the powers of the last one, trees without this, the last one not zero.
type tree struct {
	residues
	list []tree
}

func (t tree) isZero() bool {
	return len(t.residues) == 0 && len(t.list) == 0
}

// branches returns the tree with these coefficients.
func branches(list []tree) tree {
	n := len(list)
	for n > 0 && list[n-1].isZero() {
		n--
	}
	return tree{list: list[:n]}
}

// leaves yields the polynomials in the first variable.
func (t tree) leaves() iter.Seq[residues] {
	return func(yield func(residues) bool) { t.visit(yield) }
}

// visit calls yield for each leaf until it returns false, and reports whether it never did.
func (t tree) visit(yield func(residues) bool) bool {
	if len(t.residues) > 0 && !yield(t.residues) {
		return false
	}
	for _, c := range t.list {
		if !c.visit(yield) {
			return false
		}
	}
	return true
}

// each returns the tree with the polynomials that f makes of its leaves; they are not zero.
func (t tree) each(f func(residues) residues) tree {
	if len(t.residues) > 0 {
		return tree{residues: f(t.residues)}
	}
	list := make([]tree, len(t.list))
	for i, c := range t.list {
		list[i] = c.each(f)
	}
	return tree{list: list}
}

// lead returns the coefficient of the term that is the highest one by the variables behind the first, the last one of which comes first, and the exponents of these in it.
func (t tree) lead() (residues, []int) {
	var exponents []int
	for len(t.list) > 0 {
		exponents = append(exponents, len(t.list)-1)
		t = t.list[len(t.list)-1]
	}
	return t.residues, exponents
}

// exponents returns the exponents of the highest term, as lead does, and that of the first variable behind them.
func (t tree) exponents() []int {
	last, out := t.lead()
	return append(out, last.deg())
}

// isConstant reports whether the highest term has no variable.
func (t tree) isConstant() bool {
	return !slices.ContainsFunc(t.exponents(), func(k int) bool { return k > 0 })
}

// field does calculations with trees modulo a prime number. The variables are the monomials vars, in increasing order; no greatest common divisor that is asked for has a higher degree in one of them than most says. What the trees of lesser depths lack are the first ones.
type field struct {
	prime
	vars []int
	most degrees
	seed *seed
}

// seed makes numbers that are no special ones for polynomials as they come up, as random numbers would be none; they are the same each time.
type seed uint64

// next returns the next number, which is below 2^32.
func (s *seed) next() uint64 {
	*s = *s*6364136223846793005 + 1442695040888963407
	return uint64(*s >> wordBits)
}

// points yields the residues in turn, each one once.
func (f field) points() iter.Seq[uint64] {
	return func(yield func(uint64) bool) {
		start := f.rem(f.seed.next())
		for i := range f.m {
			if !yield(f.rem(start + i)) {
				return
			}
		}
	}
}

// image returns a polynomial in the variables as a tree of a depth.
func (f field) image(a multi, depth int) tree {
	coefficients := a.powers(f.vars[depth-1])
	if depth == 1 {
		out := make(residues, len(coefficients))
		for i, c := range coefficients {
			out[i] = f.residue(c.n)
		}
		return tree{residues: out.trimmed()}
	}
	list := make([]tree, len(coefficients))
	for i, c := range coefficients {
		list[i] = f.image(c, depth-1)
	}
	return branches(list)
}

// at returns the tree of a depth less by 1 with x in place of the first variable.
func (f field) at(t tree, x uint64, depth int) tree {
	if depth == 2 {
		out := make(residues, len(t.list))
		for i, c := range t.list {
			out[i] = f.value(c.residues, x)
		}
		return tree{residues: out.trimmed()}
	}
	list := make([]tree, len(t.list))
	for i, c := range t.list {
		list[i] = f.at(c, x, depth-1)
	}
	return branches(list)
}

// along returns the polynomial in the variable with the index k, with the points in place of the others.
func (f field) along(t tree, k int, points []uint64, depth int) residues {
	switch {
	case depth == 1 && k == 0:
		return t.residues
	case depth == 1:
		return residues{f.value(t.residues, points[0])}.trimmed()
	case depth-1 == k:
		out := make(residues, len(t.list))
		for i, c := range t.list {
			for _, a := range f.along(c, k, points, depth-1) {
				out[i] = a
			}
		}
		return out.trimmed()
	}
	var out residues
	for _, c := range slices.Backward(t.list) {
		out = f.scale(out, points[depth-1])
		term := f.along(c, k, points, depth-1)
		if len(out) < len(term) {
			out = append(out, make(residues, len(term)-len(out))...)
		}
		f.add(out, term, 1)
	}
	return out.trimmed()
}

// content returns the monic greatest common divisor of the leaves.
func (f field) content(t tree) residues {
	var out residues
	for leaf := range t.leaves() {
		out = f.divisor(leaf, out)
		if len(out) == 1 {
			break
		}
	}
	return out
}

// without returns the tree with its leaves divided by their content, and this.
func (f field) without(t tree) (tree, residues) {
	content := f.content(t)
	return t.each(func(leaf residues) residues { return f.quotient(leaf, content) }), content
}

// scaled returns the tree, multiplied.
func (f field) scaled(t tree, by uint64) tree {
	return t.each(func(leaf residues) residues { return f.scale(leaf, by) })
}

// monic returns the tree, divided by the last coefficient of its lead.
func (f field) monic(t tree) tree {
	last, _ := t.lead()
	return f.scaled(t, f.inverse(last[last.deg()]))
}

// gcd returns the monic greatest common divisor of two trees other than zero, of a depth. Those at many values of the first variable are joined: at each of them the coefficient of the lead is that of a multiple which is a polynomial in this variable.
func (f field) gcd(a, b tree, depth int) tree {
	if depth == 1 {
		return tree{residues: f.divisor(a.residues, b.residues)}
	}
	a, one := f.without(a)
	b, two := f.without(b)
	content := f.divisor(one, two)
	last, _ := a.lead()
	other, _ := b.lead()
	lead := f.divisor(last, other)
	enough := f.most[f.vars[len(f.vars)-depth]] + len(lead)
	var known values
	for x := range f.points() {
		if f.value(last, x) == 0 || f.value(other, x) == 0 {
			continue
		}
		g := f.gcd(f.at(a, x, depth), f.at(b, x, depth), depth-1)
		if g.isConstant() {
			known = values{at: []uint64{x}, trees: []tree{g}}
			break
		}
		known.add(x, f.scaled(g, f.value(lead, x)))
		if len(known.at) == enough {
			break
		}
	}
	g, _ := f.without(f.joined(known, depth))
	return f.monic(g.each(func(leaf residues) residues { return f.product(leaf, content) }))
}

// values are the values of a tree at some values of its first variable.
type values struct {
	at    []uint64
	trees []tree
}

// add adds a value. If it and the others have different highest terms, those with the higher one are no values of the greatest common divisor, but of multiples: they are left out.
func (v *values) add(x uint64, t tree) {
	if len(v.at) > 0 {
		switch slices.Compare(t.exponents(), v.trees[0].exponents()) {
		case 1:
			return
		case -1:
			*v = values{}
		}
	}
	v.at = append(v.at, x)
	v.trees = append(v.trees, t)
}

// joined returns the tree of a depth that has these values.
func (f field) joined(v values, depth int) tree {
	return f.blend(f.basis(v.at), v.trees, depth)
}

// blend returns the tree of a depth whose leaves are the sums of the polynomials, multiplied by the coefficients that stand at the same place in all trees.
func (f field) blend(basis []residues, trees []tree, depth int) tree {
	n := 0
	for _, t := range trees {
		n = max(n, len(t.list), len(t.residues))
	}
	list := make([]tree, n)
	for i := range list {
		if depth == 2 {
			list[i] = tree{residues: f.sum(basis, trees, i)}
			continue
		}
		parts := make([]tree, len(trees))
		for k, t := range trees {
			if i < len(t.list) {
				parts[k] = t.list[i]
			}
		}
		list[i] = f.blend(basis, parts, depth-1)
	}
	return branches(list)
}

// sum returns the sum of the polynomials, multiplied by the coefficients of leaves with the exponent i.
func (f field) sum(basis []residues, leaves []tree, i int) residues {
	out := make(residues, len(basis))
	for k, t := range leaves {
		if i < len(t.residues) {
			f.add(out, basis[k], t.residues[i])
		}
	}
	return out.trimmed()
}
