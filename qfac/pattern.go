package qfac

import (
	"math/bits"

	"quadratrix/api"
)

// group is the product of all irreducible factors of one degree.
type group[T integer] struct {
	degree  int
	product poly[T]
}

// count returns how many factors a group has.
func (g group[T]) count() int {
	return g.product.deg() / g.degree
}

// pattern is how a squarefree polynomial falls apart modulo a prime number: its groups, by ascending degrees.
type pattern[T integer] struct {
	*frobenius[T]
	groups []group[T]
}

// newPattern returns that of a monic polynomial. The factors whose degrees divide d are those of x^(m^d) - x.
func newPattern[T integer](f *field[T], p poly[T]) pattern[T] {
	out := pattern[T]{frobenius: newFrobenius(f, p)}
	x := poly[T]{0, 1}
	left, power := p, x
	for d := 1; 2*d <= left.deg(); d++ {
		power = out.apply(power)
		if g := f.gcd(left, f.sub(power, x)); g.deg() > 0 {
			out.groups = append(out.groups, group[T]{d, g})
			left = f.quo(left, g)
		}
	}
	if left.deg() > 0 {
		out.groups = append(out.groups, group[T]{left.deg(), left})
	}
	return out
}

// count returns the number of the factors.
func (l pattern[T]) count() int {
	n := 0
	for _, g := range l.groups {
		n += g.count()
	}
	return n
}

// factors returns the monic irreducible factors, by ascending degrees.
func (l pattern[T]) factors() []poly[T] {
	var out []poly[T]
	for _, g := range l.groups {
		out = append(out, l.split(g.product, g.degree, 1)...)
	}
	return out
}

// degrees returns the degrees of all products of factors.
func (l pattern[T]) degrees() degrees {
	out := degrees(1)
	for _, g := range l.groups {
		for range g.count() {
			out |= out << g.degree
		}
	}
	return out
}

// degrees is a set of numbers from 0 to 63, as bits.
type degrees uint64

func (d degrees) has(n int) bool {
	return d>>n&1 == 1
}

// areTrivial reports whether the degrees of the divisors of a polynomial are just two: 0 and its own one.
func (d degrees) areTrivial() bool {
	return bits.OnesCount64(uint64(d)) == 2
}

// morePrimes is how many prime numbers are tried beside one for each factor: to try one costs much less than to search among many factors, and may spare it.
const morePrimes = 3

// choosePattern returns the degrees that the divisors of a squarefree polynomial of a degree above 0 may have, after what it is modulo some prime numbers, and, unless they are trivial, the pattern with the fewest factors. Prime numbers that divide the leading coefficient, or the discriminant, are passed over: these are not many.
func choosePattern(p []api.Int) (best pattern[uint32], possible degrees) {
	possible = 1<<len(p) - 1
	tried, enough := 0, 1
	for m := range primes() {
		if tried >= enough || possible.areTrivial() {
			break
		}
		a := residues[uint32](p, m)
		f := newField[uint32](m)
		if len(a) < len(p) || !f.isSquarefree(a) {
			continue
		}
		l := newPattern(f, f.monic(a))
		if tried == 0 || l.count() < best.count() {
			best = l
			enough = l.count() + morePrimes
		}
		possible &= l.degrees()
		tried++
	}
	return best, possible
}
