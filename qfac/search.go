package qfac

import (
	"iter"
	"slices"

	"quadratrix/api"
	"quadratrix/num"
	"quadratrix/qpoly"
	"quadratrix/rat"
)

// irreducible returns the factors of a primitive squarefree polynomial of a degree above 0: primitive irreducible polynomials.
func irreducible(p []api.Int) [][]api.Rat {
	best, possible := choosePattern(p)
	if possible.areTrivial() {
		return [][]api.Rat{rational(p)}
	}
	s := newSearch(p, best, possible)
	var out [][]api.Rat
	for len(s.list) > 0 {
		out = append(out, s.next())
	}
	return out
}

// search looks for the factors of a polynomial among the products of its factors modulo a power of a prime number. The power is greater than twice Bound: so a divisor is found again from its residues, once it has got the leading coefficient of the polynomial.
type search struct {
	ring  ring
	left  []api.Rat   // what is left of the polynomial: primitive
	list  [][]api.Rat // the factors of this modulo the power: monic
	size  int         // no product of fewer factors is a divisor
	clues clues
}

func newSearch(p []api.Int, l pattern[uint32], possible degrees) *search {
	bound, _ := Bound(p)
	k := exponentAbove(int(l.m), num.Add(bound, bound))
	s := &search{ring: l.ring(k), left: rational(p), size: 1}
	_, inverse, _, _ := num.Bezout(p[len(p)-1], s.ring.m)
	monic := s.ring.reduce(qpoly.Scale(s.left, rat.Whole(inverse)))
	s.list = l.liftAll(monic, l.factors(), k)
	s.clues = newClues(s.ring, p, possible)
	s.clues.look(s.left, s.list)
	return s
}

// exponentAbove returns the least exponent for which the power of m is greater than n.
func exponentAbove(m int, n api.Int) int {
	k := 1
	for power := num.Of(m); num.Cmp(power, n) <= 0; k++ {
		power = num.Mul(power, num.Of(m))
	}
	return k
}

// next takes an irreducible factor off what is left, and returns it: all that is left, if no choice of at most half of the factors modulo the power makes a divisor.
func (s *search) next() []api.Rat {
	var factor, quo []api.Rat
	var taken []int
search:
	for ; 2*s.size <= len(s.list); s.size++ {
		for choice := range choices(len(s.list), s.size) {
			if !s.clues.allow(choice) {
				continue
			}
			var ok bool
			if factor, quo, ok = s.divisor(choice); ok {
				taken = slices.Clone(choice)
				break search
			}
		}
	}
	if taken == nil {
		s.list = nil
		return s.left
	}
	s.left, s.list = quo, without(s.list, taken)
	s.clues.look(s.left, s.list)
	return factor
}

// without returns the members of a list but for those with some indices.
func without[T any](list []T, indices []int) []T {
	var out []T
	for i, a := range list {
		if !slices.Contains(indices, i) {
			out = append(out, a)
		}
	}
	return out
}

// divisor returns the primitive polynomial that the product of some factors stands for, what is left divided by it, and whether it is a divisor.
func (s *search) divisor(choice []int) (p, quo []api.Rat, ok bool) {
	p = qpoly.Const(qpoly.Lead(s.left))
	for _, i := range choice {
		p = s.ring.mul(p, s.list[i])
	}
	for i, a := range p {
		p[i] = s.ring.centre(a)
	}
	_, n, _ := qpoly.Primitive(p)
	p = rational(n)
	quo, rem, _ := qpoly.Div(s.left, p)
	return p, quo, len(rem) == 0
}

// choices yields all ascending lists of k numbers from 0 to n - 1, in the same memory, the first numbers changing last.
func choices(n, k int) iter.Seq[[]int] {
	return func(yield func([]int) bool) {
		list := make([]int, k)
		for i := range list {
			list[i] = i
		}
		for yield(list) {
			i := k - 1
			for i >= 0 && list[i] == n-k+i {
				i--
			}
			if i < 0 {
				return
			}
			list[i]++
			for ; i < k-1; i++ {
				list[i+1] = list[i] + 1
			}
		}
	}
}
