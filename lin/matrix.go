package lin

import (
	"slices"

	"quadratrix/api"
	"quadratrix/num"
	"quadratrix/rat"
)

// matrix is a matrix of integers: rows of as many numbers as there are columns.
type matrix struct {
	cols int
	list []ints
}

// newMatrix returns the matrix whose rows are vectors of n numbers, each multiplied by its denominator.
func newMatrix(list []vector, n int) matrix {
	out := matrix{cols: n}
	for _, v := range list {
		out.list = append(out.list, v.ints)
	}
	return out
}

// chosen returns the matrix of the rows of a profile, with the columns of the pivots ahead of the free ones.
func (m matrix) chosen(p profile) matrix {
	columns := slices.Concat(p.pivots, p.free)
	out := matrix{cols: m.cols}
	for _, i := range p.from {
		out.list = append(out.list, m.list[i].pick(columns...))
	}
	return out
}

// reduced is the reduced echelon form of a matrix: pivots, and what its rows have in the free columns, as integers over a denominator, which is not 0.
type reduced struct {
	profile
	parts []ints
	over  api.Int
}

// reduce returns the reduced echelon form of a matrix whose rows have n numbers each; it stays the same if rows are multiplied by numbers. On which rows and columns it depends is guessed by a prime number, which leads astray only if it divides some determinants; it is no guess any more once the form has been checked.
func reduce(rows [][]api.Rat, n int) reduced {
	m := newMatrix(vectors(rows), n)
	var r reduced
	for p := range primes(leastPrime) {
		r = m.guess(p)
		if r.suits(m) {
			break
		}
	}
	return r
}

// guess returns what the reduced echelon form of m is if it has, modulo p, the same profile. By Cramer's rule its numbers are quotients of determinants of integers. They are lifted until a further prime number changes none of them.
func (m matrix) guess(p prime) reduced {
	r := reduced{profile: m.image(p).profile, over: num.Of(1)}
	if len(r.free) == 0 {
		r.parts = make([]ints, len(r.pivots))
		return r
	}
	chosen := m.chosen(r.profile)
	var found lifted
	for q := range primes(p.m) {
		g := chosen.image(q)
		if g.leads(len(r.pivots)) && found.add(q, g.numbers()) {
			break
		}
	}
	list := found.integers()
	r.over, list = list[0], list[1:]
	for range r.pivots {
		r.parts = append(r.parts, list[:len(r.free)])
		list = list[len(r.free):]
	}
	return r
}

// suits reports whether r, which has been guessed, is the reduced echelon form of m. There are as many linearly independent rows of m as r has rows, because they are so modulo a prime number: so the rows of both span the same space if each row of m is a combination of those of r.
func (r reduced) suits(m matrix) bool {
	for k, pivot := range r.pivots {
		for i, col := range r.free {
			if col < pivot && num.Sign(r.parts[k][i]) != 0 {
				return false
			}
		}
	}
	columns := transposed(r.parts, len(r.free))
	for _, row := range m.list {
		factors := row.pick(r.pivots...)
		for i, col := range r.free {
			if num.Cmp(factors.times(columns[i]), num.Mul(r.over, row[col])) != 0 {
				return false
			}
		}
	}
	return true
}

// number returns what the row k has in the free column with the index i.
func (r reduced) number(k, i int) api.Rat {
	out, _ := rat.Make(r.parts[k][i], r.over)
	return out
}

// rows returns the rows.
func (r reduced) rows() [][]api.Rat {
	var out [][]api.Rat
	for k, pivot := range r.pivots {
		row := unit(len(r.pivots)+len(r.free), pivot)
		for i, col := range r.free {
			row[col] = r.number(k, i)
		}
		out = append(out, row)
	}
	return out
}

// solution returns the vector that is 0 in all free columns and whose product with the matrix is the free column with the index i.
func (r reduced) solution(i int) []api.Rat {
	out := zeros(len(r.pivots) + len(r.free))
	for k, pivot := range r.pivots {
		out[pivot] = r.number(k, i)
	}
	return out
}

// det returns the determinant of a square matrix, from as many prime numbers as are enough for an integer of its size.
func (m matrix) det() api.Int {
	most := min(boundBits(m.list), boundBits(transposed(m.list, m.cols))) + 1
	var found lifted
	for p := range primes(leastPrime) {
		found.add(p, []uint64{m.image(p).determinant()})
		if len(found.primes)*primeBits >= most {
			break
		}
	}
	return found.integers()[0]
}

// boundBits returns a number of bits that is enough for the product of the lengths of vectors: by Hadamard's theorem the determinant is not greater.
func boundBits(list []ints) int {
	out := 0
	for _, v := range list {
		out += num.Bits(v.times(v))
	}
	return (out + 1) / 2
}
