package lin

import (
	"quadratrix/api"
	"quadratrix/num"
	"quadratrix/rat"
)

func zero() api.Rat {
	return rat.Whole(num.Of(0))
}

func one() api.Rat {
	return rat.Whole(num.Of(1))
}

// zeros returns the vector of n zeros.
func zeros(n int) []api.Rat {
	out := make([]api.Rat, n)
	for i := range out {
		out[i] = zero()
	}
	return out
}

// unit returns the vector of n numbers that has 1 at the index i, and is 0 elsewhere.
func unit(n, i int) []api.Rat {
	out := zeros(n)
	out[i] = one()
	return out
}

// transposed returns the columns of rows that have n members each.
func transposed[S ~[]T, T any](rows []S, n int) []S {
	out := make([]S, n)
	for k := range out {
		out[k] = make(S, len(rows))
		for i, row := range rows {
			out[k][i] = row[k]
		}
	}
	return out
}

// ints is a vector of integers.
type ints []api.Int

// times returns the product of two vectors of the same length.
func (v ints) times(w ints) api.Int {
	terms := make(ints, len(v))
	for i, a := range v {
		terms[i] = num.Mul(a, w[i])
	}
	return sum(terms...)
}

// sum returns the sum of integers.
func sum(terms ...api.Int) api.Int {
	out := api.Int{}
	for _, a := range terms {
		out = num.Add(out, a)
	}
	return out
}

// pick returns the members with some indices, in their order.
func (v ints) pick(indices ...int) ints {
	out := make(ints, len(indices))
	for k, i := range indices {
		out[k] = v[i]
	}
	return out
}

// vector is a vector of rational numbers: integers over a common denominator, which is above 0.
type vector struct {
	ints
	over api.Int
}

func newVector(v []api.Rat) vector {
	n, d, _ := rat.Common(v)
	return vector{n, d}
}

func vectors(rows [][]api.Rat) []vector {
	out := make([]vector, len(rows))
	for i, row := range rows {
		out[i] = newVector(row)
	}
	return out
}

// product returns the product of two vectors of the same length.
func (v vector) product(w vector) api.Rat {
	out, _ := rat.Make(v.times(w.ints), num.Mul(v.over, w.over))
	return out
}
