package qfac

import (
	"quadratrix/api"
	"quadratrix/num"
	"quadratrix/qpoly"
	"quadratrix/rat"
)

// clue is what is seen of a factor modulo a power of a prime number without computing products.
type clue struct {
	degree int
	second uint64  // its second coefficient, the leading one being that of the polynomial, as a fraction of the power: in parts of 2^-64, rounded down
	last   api.Rat // its last coefficient
}

// clues tell of most choices of factors that no divisor comes of them. A divisor that has got the leading coefficient of the polynomial has coefficients which are sums of as many products of its roots as a binomial coefficient says, each times the leading coefficient; none of these is as great as norm (Landau). So the last coefficient is below norm, and the second one below norm times the degree.
type clues struct {
	ring     ring
	possible degrees // the degrees that divisors may have
	norm     api.Int
	slack    uint64 // norm times the degree of the polynomial, as a fraction of the power, rounded up
	list     []clue
	choice   []int     // the last one that was looked at closely
	products []api.Rat // those of its first members' last coefficients and the leading one: neighbours share most of them
}

func newClues(r ring, p []api.Int, possible degrees) clues {
	n := norm(p)
	slack := r.fraction(num.Mul(n, num.Of(len(p)-1)))
	return clues{ring: r, possible: possible, norm: n, slack: slack + 1}
}

// fraction returns the greatest integer that is not above 2^64 a / m, for a from 0 to m - 1.
func (r ring) fraction(a api.Int) uint64 {
	q, _, _ := num.Div(num.Mul(a, powerOfTwo(64)), r.m)
	out := uint64(0)
	for i, w := range q.Abs {
		out |= uint64(w) << (32 * i)
	}
	return out
}

// look takes down what is seen of the factors of p, which are monic.
func (c *clues) look(p []api.Rat, factors [][]api.Rat) {
	lead := qpoly.Lead(p)
	c.list = make([]clue, len(factors))
	for i, f := range factors {
		n := qpoly.Deg(f)
		second := c.ring.number(rat.Mul(lead, f[n-1]))
		c.list[i] = clue{n, c.ring.fraction(second.N), f[0]}
	}
	c.choice, c.products = nil, []api.Rat{lead}
}

// allow reports whether a divisor may come of some factors.
func (c *clues) allow(choice []int) bool {
	degree, second := 0, uint64(0)
	for _, i := range choice {
		degree += c.list[i].degree
		second += c.list[i].second
	}
	if !c.possible.has(degree) {
		return false
	}
	// Sums are right up to multiples of 2^64, and too low by less than one for each member.
	room := c.slack + uint64(len(choice))
	if second+room > c.slack+room {
		return false
	}
	last := c.ring.centre(c.product(choice))
	return num.Cmp(num.Abs(last.N), c.norm) < 0
}

// product returns the product of the last coefficients of some factors, and the leading one.
func (c *clues) product(choice []int) api.Rat {
	n := 0
	for n < min(len(choice), len(c.choice)) && choice[n] == c.choice[n] {
		n++
	}
	c.choice = append(c.choice[:n], choice[n:]...)
	c.products = c.products[:n+1]
	for k, i := range choice[n:] {
		next := rat.Mul(c.products[n+k], c.list[i].last)
		c.products = append(c.products, c.ring.number(next))
	}
	return c.products[len(choice)]
}
