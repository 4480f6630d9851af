package qpoly_test

import (
	"math/big"
	"slices"
	"testing"

	"quadratrix/api"
	"quadratrix/num"
	"quadratrix/qpoly"
	"quadratrix/rat"
)

// expectRoots checks that the roots of p are want, in any order.
func expectRoots(t *testing.T, p, want []api.Rat) {
	t.Helper()
	want = slices.Clone(want)
	slices.SortFunc(want, func(a, b api.Rat) int { return bigRat(a).Cmp(bigRat(b)) })
	want = slices.CompactFunc(want, sameRat)
	if l, e := qpoly.Roots(p); !same(l, want) || e != api.OK {
		t.Error(show(p), show(l), "not", show(want), e)
	}
}

// linear returns the product of the factors b x - a, over all a / b.
func linear(roots []api.Rat) []api.Rat {
	out := poly("1")
	for _, a := range roots {
		out = qpoly.Mul(out, []api.Rat{rat.Neg(rat.Whole(a.N)), rat.Whole(a.D)})
	}
	return out
}

// P3.9
func TestRoots(t *testing.T) {
	for _, x := range [][2]string{
		{"1 -2 -1 2", "-1 1/2 1"}, {"-2 0 1", ""}, {"4", ""}, {"-1/3", ""}, {"0 0 3", "0"}, {"-1 0 0 8", "1/2"}, {"0 1", "0"}, {"1 2", "-1/2"}, {"1 2 1", "-1"},
		{"0 -4 0 1", "-2 0 2"}, {"1 0 1", ""}, {"6 -5 1", "2 3"}, {"1/6 -5/6 1", "1/3 1/2"}, {"-120 274 -225 85 -15 1", "1 2 3 4 5"}, {"0 0 0 0 0 0 1", "0"}, {"-4294967297 1", "4294967297"},
	} {
		if l, e := qpoly.Roots(poly(x[0])); !same(l, poly(x[1])) || e != api.OK {
			t.Error(x, show(l), e)
		}
	}
	if l, e := qpoly.Roots(nil); len(l) != 0 || e != api.ErrZero {
		t.Error(l, e)
	}
}

// P3.9: by the theorem of rational roots all roots of polynomials with small coefficients are tried.
func TestAllSmallRoots(t *testing.T) {
	w := &dice{state: 21}
	for range 400 {
		var p bigPoly
		for range 1 + w.below(6) {
			p = append(p, big.NewRat(int64(w.below(13)-6), 1))
		}
		if p = p.cut(); len(p) == 0 {
			continue
		}
		var want []api.Rat
		for n := -6; n <= 6; n++ {
			for d := 1; d <= 6; d++ {
				if x := big.NewRat(int64(n), int64(d)); p.eval(x).Sign() == 0 {
					want = append(want, fromRat(x))
				}
			}
		}
		expectRoots(t, p.list(), want)
	}
}

// P3.9: known roots, beside factors that have none.
func TestKnownRoots(t *testing.T) {
	w := &dice{state: 22}
	others := polys("1; -7/3; 1 0 1; -2 0 1; 3 0 0 0 5; 1 1 1 1 1; -2 0 0 9; -1 -1 0 0 0 1")
	for i := range 60 {
		var roots []api.Rat
		for range i % 9 {
			roots = append(roots, fromRat(w.number(1+i%6)))
		}
		p := linear(roots)
		for range w.below(3) {
			p = qpoly.Mul(p, others[w.below(len(others))])
		}
		if i%5 == 0 {
			p = qpoly.Mul(p, p)
		}
		expectRoots(t, qpoly.Scale(p, read("-3/7")), roots)
	}
}

// P3.9: modulo all prime numbers below 1000 these roots fall together, or leave the polynomial with a lesser degree.
func TestRootsWithoutSmallPrimes(t *testing.T) {
	m := big.NewInt(1)
	for n := int64(2); n < 1000; n++ {
		if big.NewInt(n).ProbablyPrime(0) {
			m.Mul(m, big.NewInt(n))
		}
	}
	number := func(n, d *big.Int) api.Rat { return fromRat(new(big.Rat).SetFrac(n, d)) }
	one := big.NewInt(1)
	next := new(big.Int).Add(m, one)
	expectRoots(t, linear([]api.Rat{number(m, one), read("0")}), []api.Rat{read("0"), number(m, one)})
	expectRoots(t, linear([]api.Rat{number(next, one), read("1"), read("-5/3")}), []api.Rat{number(next, one), read("1"), read("-5/3")})
	expectRoots(t, linear([]api.Rat{number(one, m), read("-1")}), []api.Rat{number(one, m), read("-1")})
	expectRoots(t, qpoly.Sub(poly("0 0 1"), []api.Rat{number(m, one)}), nil)
	var close []api.Rat
	for n := range 40 {
		close = append(close, rat.Whole(num.Of(n-7)))
	}
	expectRoots(t, linear(close), close)
}

// P3.9: the limits are those of the degree and of the primitive polynomial; of long roots no digit is lost.
func TestLimitsOfRoots(t *testing.T) {
	power := func(n int) api.Rat { return fromRat(new(big.Rat).SetInt(new(big.Int).Lsh(big.NewInt(1), uint(n)))) }
	half := func(n int) api.Rat { return fromRat(new(big.Rat).Inv(bigRat(power(n)))) }
	for _, x := range []struct {
		p, want []api.Rat
		e       api.Errno
	}{
		{append(zeros(60), read("5")), poly("0"), api.OK},
		{append(zeros(61), read("5")), nil, api.ErrLimit},
		{append(append(poly("-1"), zeros(59)...), read("1")), poly("-1 1"), api.OK},
		{[]api.Rat{read("-1"), power(3999)}, []api.Rat{half(3999)}, api.OK},
		{[]api.Rat{read("-1"), power(4000)}, nil, api.ErrLimit},
		{[]api.Rat{power(3999), read("-1")}, []api.Rat{power(3999)}, api.OK},
		{[]api.Rat{power(4000), read("-1")}, nil, api.ErrLimit},
		{[]api.Rat{power(3999), read("1")}, []api.Rat{rat.Neg(power(3999))}, api.OK},
		{[]api.Rat{power(4000), power(4000)}, poly("-1"), api.OK},
		{[]api.Rat{half(4000), half(4001)}, poly("-2"), api.OK},
		{[]api.Rat{power(4000)}, nil, api.OK},
		{[]api.Rat{read("1"), power(4000), read("1")}, nil, api.ErrLimit},
		{append(zeros(60), power(5000)), poly("0"), api.OK},
		{append(append([]api.Rat{power(4000)}, zeros(60)...), read("1")), nil, api.ErrLimit},
	} {
		if l, e := qpoly.Roots(x.p); !same(l, x.want) || e != x.e {
			t.Error(len(x.p), show(l), e)
		}
	}
	w := &dice{state: 23}
	var roots []api.Rat
	for range 60 {
		a := fromRat(new(big.Rat).SetFrac(bigRat(w.integers(0, 2)[0]).Num(), big.NewInt(int64(1+w.below(1<<30)))))
		roots = append(roots, a)
	}
	expectRoots(t, linear(roots), roots)
}

// P3.15
func TestLawsOfRoots(t *testing.T) {
	numbers := poly("0 1 -1 2 -2 1/2 -1/2 3 1/3 -2/3 5")
	triples(func(p, q, _ []api.Rat) {
		if len(p) == 0 || len(q) == 0 {
			return
		}
		a, e := qpoly.Roots(p)
		ok(t, e)
		b, e := qpoly.Roots(q)
		ok(t, e)
		expectRoots(t, qpoly.Mul(p, q), slices.Concat(a, b))
		for _, x := range numbers {
			_, rem, e := qpoly.Div(p, []api.Rat{rat.Neg(x), read("1")})
			if slices.ContainsFunc(a, func(y api.Rat) bool { return sameRat(x, y) }) != (len(rem) == 0) || e != api.OK {
				t.Error(show(p, a), rat.Print(x), e)
			}
		}
	})
}
