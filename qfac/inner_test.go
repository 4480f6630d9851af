package qfac

import (
	"math/big"
	"slices"
	"testing"

	"quadratrix/api"
	"quadratrix/num"
	"quadratrix/qpoly"
	"quadratrix/rat"
)

func TestPrimes(t *testing.T) {
	last := 1
	for m := range primes() {
		for n := last + 1; n <= m; n++ {
			if big.NewInt(int64(n)).ProbablyPrime(0) != (n == m) {
				t.Error(n, m)
			}
		}
		if last = m; m > 5000 {
			break
		}
	}
}

// Inverses are the same for all kinds of integers; those of great prime numbers go beyond the table.
func TestInverses(t *testing.T) {
	for _, m := range []int{2, 3, 5, 7, 997, 1009, 10007, 65537, 104729} {
		f, g, h := newField[int](m), newField[uint32](m), newField[uint64](m)
		for a := uint64(1); a < uint64(m); a += 1 + uint64(m)/1500 {
			b := f.inverse(a)
			if a*b%uint64(m) != 1 || b >= uint64(m) || g.inverse(a) != b || h.inverse(a) != b {
				t.Fatal(m, a, b)
			}
		}
	}
}

// The factors modulo a prime number are the same for all kinds of integers.
func TestKinds(t *testing.T) {
	p := numbersOf(-1, 0, 3, 0, 0, 1, 0, 0, 7, 2, 0, 0, 1)
	for _, m := range []int{3, 11, 19, 101, 5003} {
		f, g := newField[int](m), newField[uint64](m)
		a, b := residues[int](p, m), residues[uint64](p, m)
		if !f.isSquarefree(a) || !g.isSquarefree(b) {
			t.Fatal(m)
		}
		k, l := newPattern(f, a).factors(), newPattern(g, b).factors()
		if len(k) != len(l) {
			t.Fatal(m, k, l)
		}
		product := poly[int]{1}
		for i, q := range k {
			product = f.mul(product, q)
			if !slices.EqualFunc(q, l[i], func(x int, y uint64) bool { return uint64(x) == y }) {
				t.Error(m, k, l)
			}
		}
		if !slices.Equal(product, a) {
			t.Error(m, k)
		}
	}
}

func numbersOf(p ...int) []api.Int {
	var out []api.Int
	for _, a := range p {
		out = append(out, num.Of(a))
	}
	return out
}

// Choices are all ascending lists, each once, in their order.
func TestChoices(t *testing.T) {
	for n := 1; n < 9; n++ {
		for k := 1; k <= n; k++ {
			count := 1
			for i := range k {
				count = count * (n - i) / (i + 1)
			}
			var last []int
			for list := range choices(n, k) {
				count--
				if len(list) != k || list[0] < 0 || list[k-1] >= n || slices.Compare(last, list) >= 0 || !slices.IsSorted(list) || len(slices.Compact(slices.Clone(list))) < k {
					t.Error(n, k, last, list)
				}
				last = slices.Clone(list)
			}
			if count != 0 {
				t.Error(n, k, count)
			}
		}
	}
}

func TestExponentAbove(t *testing.T) {
	for _, x := range [][3]int{{2, 0, 1}, {2, 1, 1}, {2, 2, 2}, {2, 3, 2}, {2, 4, 3}, {3, 8, 2}, {3, 9, 3}, {7, 342, 3}, {7, 343, 4}} {
		if k := exponentAbove(x[0], num.Of(x[1])); k != x[2] {
			t.Error(x, k)
		}
	}
}

// The degrees of all products of factors, and what several prime numbers leave of them.
func TestDegrees(t *testing.T) {
	f := newField[int](2)
	d := newPattern(f, poly[int]{0, 1, 1, 1, 1, 1, 1, 1}).degrees() // degrees 1, 3, 3
	for n, want := range []bool{true, true, false, true, true, false, true, true, false} {
		if d.has(n) != want {
			t.Error(n, d)
		}
	}
	if d.areTrivial() || !newPattern(f, poly[int]{1, 1, 1}).degrees().areTrivial() || !newPattern(f, poly[int]{1, 1}).degrees().areTrivial() {
		t.Error(d)
	}
	if _, d := choosePattern(numbersOf(1, 0, 0, 0, 1)); d.areTrivial() || d.has(1) || !d.has(2) {
		t.Error(d) // no prime number shows that x^4 + 1 is irreducible
	}
	if _, d := choosePattern(numbersOf(-2, 0, 0, 0, 0, 1)); !d.areTrivial() {
		t.Error(d)
	}
}

// Clues allow all choices of which divisors come, and few others.
func TestClues(t *testing.T) {
	parts := [][]api.Rat{rational(numbersOf(3, 2)), rational(numbersOf(-2, 1)), rational(numbersOf(1, 5, 7)), rational(numbersOf(-2, 0, 0, 3)), rational(numbersOf(1, 0, 0, 0, 1)), rational(numbersOf(1, 0, -10, 0, 1))}
	p := qpoly.Const(rat.Whole(num.Of(1)))
	for _, q := range parts {
		p = qpoly.Mul(p, q)
	}
	pattern, possible := choosePattern(integers(p))
	s := newSearch(integers(p), pattern, possible)
	divisors, allowed := 0, 0
	for k := 1; k <= len(s.list); k++ {
		for choice := range choices(len(s.list), k) {
			_, _, is := s.divisor(choice)
			ok := s.clues.allow(choice)
			if is && !ok {
				t.Error(choice)
			}
			if is {
				divisors++
			}
			if ok {
				allowed++
			}
		}
	}
	if divisors != 1<<len(parts)-1 || allowed > 2*divisors {
		t.Error(divisors, allowed, len(s.list))
	}
}
