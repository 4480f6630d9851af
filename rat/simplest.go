package rat

import (
	"iter"
	"slices"

	"quadratrix/api"
	"quadratrix/num"
)

// Simplest returns the simplest rational number of a closed interval.
func Simplest(lo, hi api.Rat) (api.Rat, api.Errno) {
	switch {
	case !sound(lo) || !sound(hi): // of these nothing is asked but to return, which terms might not
		return api.Rat{}, api.ErrForm
	case Cmp(lo, hi) > 0:
		return api.Rat{}, api.ErrNone
	case Sign(lo) > 0:
		return simplest(lo, hi), api.OK
	case Sign(hi) < 0:
		return Neg(simplest(Neg(hi), Neg(lo))), api.OK
	}
	return Whole(api.Int{}), api.OK
}

// simplest returns the simplest number of an interval above 0: going down the terms of the ends, and from the last one back.
func simplest(lo, hi api.Rat) api.Rat {
	n, d := num.Of(1), api.Int{}
	back := func(term api.Int) { // from x, which is n / d, to term + 1 / x
		n, d = num.Add(num.Mul(term, n), d), n
	}
	down := slices.Collect(terms(lo, hi))
	for _, term := range slices.Backward(down) {
		back(term)
	}
	return api.Rat{N: n, D: d}
}

// terms yields the terms of the continued fraction of the simplest number from lo to hi, which are above 0. As long as there is no integer between the ends, both have the same integer part, which is a term, and it goes on with the inverses of what is left of them, which change places. The least integer from lo on is the last term.
func terms(lo, hi api.Rat) iter.Seq[api.Int] {
	return func(yield func(api.Int) bool) {
		for {
			term, left, _ := num.Div(lo.N, lo.D)
			more := num.Sub(hi.N, num.Mul(term, hi.D))
			if num.Sign(left) == 0 {
				yield(term)
				return
			}
			if num.Cmp(more, hi.D) >= 0 {
				yield(num.Add(term, num.Of(1)))
				return
			}
			if !yield(term) {
				return
			}
			lo, hi = api.Rat{N: hi.D, D: more}, api.Rat{N: lo.D, D: left}
		}
	}
}
