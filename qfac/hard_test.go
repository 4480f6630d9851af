package qfac_test

import (
	"slices"
	"testing"

	"quadratrix/api"
	"quadratrix/num"
	"quadratrix/qfac"
	"quadratrix/qpoly"
	"quadratrix/rat"
)

// roots returns the polynomial whose roots are the sums of square roots of the numbers, with any signs. If these are independent, it is irreducible, but it falls apart into factors of the degrees 1 and 2 modulo every prime number. (Of p(x + y), y^2 being a number, a + b y is what is even and odd in y, and p(x + y) p(x - y) is a^2 - b^2 y^2.)
func roots(list ...int) []api.Rat {
	p := wholes(0, 1)
	for _, n := range list {
		square := rat.Whole(num.Of(n))
		var even, odd []api.Rat
		for _, c := range slices.Backward(p) {
			turned := qpoly.Add(qpoly.Mul(wholes(0, 1), even), qpoly.Scale(odd, square))
			odd = qpoly.Add(qpoly.Mul(wholes(0, 1), odd), even)
			even = qpoly.Add(turned, qpoly.Const(c))
		}
		p = qpoly.Sub(product(even, even), qpoly.Scale(product(odd, odd), square))
	}
	return p
}

// P4.5, P4.6: irreducible polynomials with many factors modulo all prime numbers, and their products.
func TestManyModularFactors(t *testing.T) {
	for _, p := range [][]api.Rat{roots(2), roots(2, 3), roots(2, 3, 5), roots(2, 3, 5, 7), roots(2, 3, 5, 7, 11), roots(-1, 2, 3, 5, 7), roots(-1, -2, -3), roots(6, 10, 35, 7)} {
		expectIrreducible(t, p, true)
	}
	expect(t, "1", roots(2, 3, 5, 7, 11), roots(2, 3, 5, 7), roots(2, 3, 5), roots(2, 3))
	expect(t, "-2/3", roots(2, 3, 5, 7), roots(2, 3, 5, 11), roots(2, 3, 7, 11))
	expect(t, "7", roots(2, 3, 5), roots(2, 3, 7), roots(2, 5, 7), roots(3, 5, 7), roots(2, 3, 11), roots(2, 5, 11), roots(3, 5, 11))
	expect(t, "1", roots(2, 3, 5, 7), compose(roots(2, 3, 5, 7), wholes(1, 1)), compose(roots(2, 3, 5, 7), wholes(0, 2)))
	expect(t, "1", compose(roots(2, 3, 5, 7, 11), []api.Rat{shift(100), wholes(1)[0]}))
	expect(t, "1", compose(roots(2, 3, 5, 7), wholes(5, 1<<40)), compose(roots(2, 3, 5), wholes(-5, 1<<40)))
}

// P4.5: the roots of unity.
func TestCyclotomic(t *testing.T) {
	for n := 1; n <= api.MaxDegree; n++ {
		minus := append(append(wholes(-1), slices.Repeat(wholes(0), n-1)...), wholes(1)...)
		var list [][]api.Rat
		for k := 1; k <= n; k++ {
			if n%k == 0 {
				list = append(list, cyclotomic(k))
			}
		}
		expect(t, "1", list...)
		list = nil
		for k := 1; k <= 2*n; k++ {
			if 2*n%k == 0 && n%k != 0 {
				list = append(list, cyclotomic(k))
			}
		}
		expect(t, "-1/2", list...)
		if got := show(t, product(list...)); got != show(t, qpoly.Add(minus, wholes(2))) {
			t.Error(n, got)
		}
	}
}

// P4.5, P4.6: polynomials that Eisenstein's theorem shows to be irreducible, with long coefficients, and their products.
func TestEisenstein(t *testing.T) {
	w := &chance{7}
	list := []int{2, 3, 5, 7, 1009, 65537}
	eisenstein := func(n, bits int) []api.Rat {
		p := rat.Whole(num.Of(list[w.below(len(list))]))
		out := w.poly(n, bits)
		for i := range n {
			out[i] = rat.Mul(out[i], p)
		}
		for isMultiple(out[n], p) {
			out[n] = w.integer(bits)
		}
		for isMultiple(out[0], rat.Mul(p, p)) {
			out[0] = rat.Mul(w.integer(bits), p)
		}
		return out
	}
	for i := range 60 {
		p := eisenstein(1+w.below(60), 1+w.below(200))
		expectIrreducible(t, p, true)
		expect(t, "-3/5", eisenstein(1+w.below(15), 1+i), eisenstein(1+w.below(15), 1+i), eisenstein(1+w.below(30), 90))
	}
	expectIrreducible(t, eisenstein(60, 3900), true)
	expect(t, "1", eisenstein(30, 1900), eisenstein(30, 1900))
	expect(t, "1", eisenstein(3, 1900), eisenstein(57, 1900))
	expect(t, "1", eisenstein(20, 1200), eisenstein(20, 1200), eisenstein(1, 1200), eisenstein(19, 100))
}

func isMultiple(a, b api.Rat) bool {
	_, r, _ := num.Div(a.N, b.N)
	return num.Sign(r) == 0
}

// P4.5: as many factors as there may be, with long coefficients and with short ones.
func TestManyFactors(t *testing.T) {
	w := &chance{8}
	for _, degree := range []int{1, 2, 4} {
		var short, long [][]api.Rat
		for i := range 60 / degree {
			p := append(append(wholes(-2-4*i), slices.Repeat(wholes(0), degree-1)...), wholes(1)...)
			short = append(short, p)
			q := append(slices.Clone(p[:degree]), rat.Whole(num.Of(1+2*w.below(1<<50))))
			q[0] = rat.Whole(num.Of(2 + 4*w.below(1<<40)))
			long = append(long, q)
		}
		expect(t, "1", short...)
		expect(t, "2/3", long...)
		expect(t, "1", slices.Concat(short[:10/degree], long[:10/degree], short[:10/degree], short[5/degree:10/degree])...)
	}
	expect(t, "1", slices.Repeat([][]api.Rat{wholes(3, 7)}, 60)...)
	expect(t, "5", slices.Concat(slices.Repeat([][]api.Rat{wholes(1, 1, 1)}, 20), slices.Repeat([][]api.Rat{wholes(0, 1)}, 20))...)
}

// P4.5, P4.6: no small prime number is of any use here: modulo each the polynomial has a square, or a lesser degree.
func TestNoSmallPrimes(t *testing.T) {
	m := smallPrimes(2000)
	zero, one := wholes(0)[0], wholes(1)[0]
	expectIrreducible(t, []api.Rat{m, zero, one}, true)
	expectIrreducible(t, []api.Rat{one, zero, m}, true)
	expectIrreducible(t, []api.Rat{rat.Neg(m), zero, zero, zero, zero, one}, true)
	expectIrreducible(t, append(append([]api.Rat{m}, slices.Repeat([]api.Rat{zero}, 59)...), one), true)
	next := rat.Add(m, one)
	expect(t, "1", []api.Rat{rat.Neg(one), one}, []api.Rat{rat.Neg(next), one})
	expect(t, "3", []api.Rat{one, m}, []api.Rat{one, one})
	small := smallPrimes(1100)
	expect(t, "1", []api.Rat{one, small}, []api.Rat{small, one}, []api.Rat{zero, one})
	small = smallPrimes(600)
	expect(t, "1", []api.Rat{small, zero, one}, []api.Rat{rat.Neg(small), zero, one}, []api.Rat{one, zero, small})
}

// P4.10
func TestUniqueFactors(t *testing.T) {
	w := &chance{9}
	for i := range 250 {
		p := qpoly.Scale(w.poly(w.below(9), 1+i%7), inverse(w.integer(5)))
		q := w.poly(w.below(9), 1+w.below(30))
		if i%3 == 0 {
			q = product(q, p)
		}
		if i%4 == 0 {
			p = spread(p, 1+w.below(3))
		}
		c, l, e := qfac.Factor(p)
		d, m, e2 := qfac.Factor(q)
		if e != api.OK || e2 != api.OK {
			t.Fatal(show(t, p), show(t, q), e, e2)
		}
		var both [][]api.Rat
		for _, f := range slices.Concat(l, m) {
			expectIrreducible(t, f.P, true)
			both = append(both, slices.Repeat([][]api.Rat{f.P}, f.K)...)
		}
		expect(t, rat.Print(rat.Mul(c, d)), both...)
	}
}

// P4.11
func TestWhatIsKept(t *testing.T) {
	w := &chance{10}
	for i := range 250 {
		p := w.poly(w.below(12), 1+i%9)
		if i%2 == 0 {
			p = product(p, w.poly(w.below(4), 4))
		}
		want, e := qfac.Irreducible(p)
		if e != api.OK {
			t.Fatal(show(t, p), e)
		}
		expectIrreducible(t, p, want)
		a := rat.Mul(w.integer(8), inverse(w.integer(6)))
		b := rat.Mul(w.integer(8), inverse(w.integer(6)))
		expectIrreducible(t, compose(p, []api.Rat{b, a}), want)
		expectIrreducible(t, qpoly.Scale(p, a), want)
		if qpoly.Deg(p) > 0 && rat.Sign(p[0]) != 0 {
			turned := slices.Clone(p)
			slices.Reverse(turned)
			expectIrreducible(t, turned, want)
		}
	}
}

// P4.5: the argument stays as it is.
func TestArguments(t *testing.T) {
	p := product(wholes(1, 1), wholes(-2, 0, 3), wholes(1, 1))
	before := show(t, p)
	factored(t, p)
	if _, e := qfac.Irreducible(p); e != api.OK || show(t, p) != before {
		t.Error(show(t, p), before, e)
	}
}

// Lists that are no canonical polynomials: nothing is promised but that the functions return.
func TestReturns(t *testing.T) {
	one, two := num.Of(1), num.Of(2)
	for _, a := range []api.Rat{{}, {N: one}, {N: two, D: two}, {N: two, D: num.Of(4)}, {N: one, D: num.Of(-1)}, {N: num.Of(0), D: two}, {N: api.Int{Neg: true}, D: one}, {N: api.Int{Abs: []uint32{0}}, D: one}, {N: one, D: api.Int{Abs: []uint32{3, 0}}}, rat.Whole(num.Of(0))} {
		for _, p := range [][]api.Rat{{a}, {a, a}, {wholes(1)[0], a}, {a, wholes(1)[0]}, {a, wholes(0)[0]}, {wholes(3)[0], a, wholes(1)[0]}, {wholes(3)[0], wholes(1)[0], a}, slices.Repeat([]api.Rat{a}, 61), slices.Repeat([]api.Rat{a}, 62)} {
			qfac.Factor(p)
			qfac.Irreducible(p)
		}
	}
}

// The order of factors: by degree, then by the highest coefficient at which they differ.
func TestOrder(t *testing.T) {
	expect(t, "1", wholes(7, 1), wholes(-9, 1), wholes(-1, 2), wholes(1, 2), wholes(0, 1), wholes(5, 1, 1), wholes(7, -1, 1), wholes(-5, 0, 1), wholes(7, 0, 1), rats("1/2 1/3 1"), rats("1/2 1/4 1"), rats("2 0 0 1"))
	if got := factored(t, product(wholes(7, 1), wholes(-9, 1), wholes(1, 2), wholes(5, 1, 1), wholes(7, -1, 1), wholes(7, 0, 1))); got != "2 (-9 1) (1/2 1) (7 1) (7 -1 1) (7 0 1) (5 1 1)" {
		t.Error(got)
	}
}
