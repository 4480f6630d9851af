package qpoly_test

import (
	"math/big"
	"testing"

	"quadratrix/api"
	"quadratrix/qpoly"
	"quadratrix/rat"
)

// P3.3
func TestDiv(t *testing.T) {
	pairs(func(p, q []api.Rat) {
		quo, rem, e := qpoly.Div(p, q)
		if len(q) == 0 {
			if len(quo) != 0 || len(rem) != 0 || e != api.ErrZero {
				t.Error(show(p), quo, rem, e)
			}
			return
		}
		a, b := toBig(p).divide(toBig(q))
		expect(t, "quotient", quo, a, p, q)
		expect(t, "remainder", rem, b, p, q)
		if e != api.OK {
			t.Error(show(p, q), e)
		}
	})
	for _, x := range [][4]string{{"0 0 0 1", "1 2", "1/8 -1/4 1/2", "-1/8"}, {"0 1", "0 0 1", "", "0 1"}, {"", "3", "", ""}, {"1 2", "-2", "-1/2 -1", ""}, {"-1 0 1", "1 1", "-1 1", ""}, {"5", "7", "5/7", ""}} {
		if quo, rem, e := qpoly.Div(poly(x[0]), poly(x[1])); !same(quo, poly(x[2])) || !same(rem, poly(x[3])) || e != api.OK {
			t.Error(x, show(quo, rem), e)
		}
	}
}

// P3.3
func TestMonic(t *testing.T) {
	for _, p := range some() {
		expect(t, "Monic", qpoly.Monic(p), toBig(p).monic(), p)
	}
	if p := qpoly.Monic(poly("1/2 0 -3")); !same(p, poly("-1/6 0 1")) {
		t.Error(show(p))
	}
}

// P3.4
func TestGcd(t *testing.T) {
	pairs(func(p, q []api.Rat) {
		expect(t, "Gcd", qpoly.Gcd(p, q), toBig(p).gcd(toBig(q)), p, q)
	})
	for _, x := range [][3]string{{"-2 0 2", "3 3", "1 1"}, {"", "0 2", "0 1"}, {"0 2", "", "0 1"}, {"", "", ""}, {"5", "", "1"}, {"", "-5", "1"}, {"3", "1 1", "1"}, {"1 2 1", "-1 0 1", "1 1"}, {"1/2 1/2", "1/3 1/3", "1 1"}} {
		if g := qpoly.Gcd(poly(x[0]), poly(x[1])); !same(g, poly(x[2])) {
			t.Error(x, show(g))
		}
	}
}

// P3.4: divisors with long coefficients, which take many prime numbers, and ones of high degrees.
func TestLongGcd(t *testing.T) {
	w := &dice{state: 11}
	for i := range 12 {
		g := w.integers(1+3*i, 1+4*i)
		p, q := w.integers(3+i, 1+i), w.integers(9, 2)
		if !same(qpoly.Gcd(p, q), poly("1")) {
			t.Fatal("a case with another divisor")
		}
		if got := qpoly.Gcd(qpoly.Mul(p, g), qpoly.Mul(g, q)); !same(got, qpoly.Monic(g)) {
			t.Error(i, show(got))
		}
	}
}

// P3.4: the numbers 2^30 + 3, + 7 and so on are prime; modulo them the polynomials have a divisor of a higher degree, or a lesser degree themselves.
func TestUnluckyPrimes(t *testing.T) {
	m := read("1")
	for _, s := range []string{"1073741827", "1073741831", "1073741833", "1073741839", "1073741843"} {
		m = rat.Mul(m, read(s))
		shifted := []api.Rat{m, read("1")} // x + m
		low := []api.Rat{read("1"), m}     // m x + 1
		for _, x := range [][3][]api.Rat{
			{shifted, poly("0 1"), poly("1")},
			{poly("0 1"), shifted, poly("1")},
			{qpoly.Mul(shifted, poly("1 1")), qpoly.Mul(poly("0 1"), poly("1 1")), poly("1 1")},
			{qpoly.Mul(low, poly("2 3 1")), qpoly.Mul(low, poly("-1 3")), qpoly.Monic(low)},
			{qpoly.Mul(low, poly("2 3 1")), qpoly.Mul(poly("1 2"), poly("2 3 1")), poly("2 3 1")},
			{qpoly.Mul(shifted, shifted), qpoly.Mul(shifted, poly("0 5")), shifted},
		} {
			if g := qpoly.Gcd(x[0], x[1]); !same(g, x[2]) {
				t.Error(show(x[0], x[1], g))
			}
			checkBezout(t, x[0], x[1])
			if a := qpoly.Resultant(x[0], x[1]); qpoly.Deg(x[2]) > 0 && rat.Sign(a) != 0 {
				t.Error(show(x[0], x[1]), rat.Print(a))
			}
		}
		long := (&dice{state: 14}).integers(3, 9) // takes many prime numbers, of which the others do no harm
		if g := qpoly.Gcd(qpoly.Mul(long, shifted), qpoly.Mul(long, poly("0 1"))); !same(g, qpoly.Monic(long)) {
			t.Error(show(g))
		}
		single := []api.Rat{read(s), read("1")}
		if g := qpoly.Gcd(qpoly.Mul(long, single), qpoly.Mul(long, poly("0 1"))); !same(g, qpoly.Monic(long)) {
			t.Error(s, show(g))
		}
		if a := qpoly.Resultant(shifted, poly("0 1")); !sameRat(a, rat.Neg(m)) {
			t.Error(rat.Print(a))
		}
		if a := qpoly.Resultant(low, poly("2 1")); !sameRat(a, rat.Sub(rat.Mul(m, read("2")), read("1"))) {
			t.Error(rat.Print(a))
		}
	}
}

// checkBezout checks the combination, and that it is the one that is asked for.
func checkBezout(t *testing.T, p, q []api.Rat) {
	t.Helper()
	g, u, v, e := qpoly.Bezout(p, q)
	a, b := toBig(p), toBig(q)
	if e != api.OK || !same(g, a.gcd(b).list()) {
		t.Error("divisor", show(p, q, g), e)
		return
	}
	if !qpoly.Is(u) || !qpoly.Is(v) || !same(toBig(u).times(a).plus(toBig(v).times(b)).list(), g) {
		t.Error("no combination", show(p, q, g, u, v))
	}
	if len(q) > 0 {
		if len(u) > 0 && qpoly.Deg(u) >= qpoly.Deg(q)-qpoly.Deg(g) {
			t.Error("degree", show(p, q, u))
		}
		return
	}
	var want []api.Rat
	if len(p) > 0 {
		want = fromRatList(new(big.Rat).Inv(bigRat(p[len(p)-1])))
	}
	if !same(u, want) || len(v) != 0 {
		t.Error("q = 0", show(p, u, v))
	}
}

func fromRatList(l ...*big.Rat) []api.Rat {
	return bigPoly(l).list()
}

// P3.4
func TestBezout(t *testing.T) {
	for _, x := range [][5]string{
		{"0 0 1", "-1 1", "1", "1", "-1 -1"}, {"-1 1", "0 0 1", "1", "-1 -1", "1"}, {"0 2", "", "0 1", "1/2", ""}, {"0 0 1", "0 1", "0 1", "", "1"},
		{"", "", "", "", ""}, {"", "0 -4", "0 1", "", "-1/4"}, {"", "3", "1", "", "1/3"}, {"3", "", "1", "1/3", ""}, {"3", "5", "1", "", "1/5"}, {"0 2", "0 2", "0 1", "", "1/2"}, {"0 1", "0 3", "0 1", "", "1/3"},
		{"1 1", "5", "1", "", "1/5"}, {"5", "1 1", "1", "1/5", ""}, {"0 1", "0 0 3", "0 1", "1", ""}, {"1/2 1/2", "0 1/3", "1", "2", "-3"},
	} {
		g, u, v, e := qpoly.Bezout(poly(x[0]), poly(x[1]))
		if !same(g, poly(x[2])) || !same(u, poly(x[3])) || !same(v, poly(x[4])) || e != api.OK {
			t.Error(x, show(g, u, v), e)
		}
	}
	pairs(func(p, q []api.Rat) {
		if len(p) < 10 && len(q) < 10 {
			checkBezout(t, p, q)
		}
	})
	w := &dice{state: 12}
	checkBezout(t, w.integers(20, 1), w.integers(17, 2))
	g := w.integers(4, 2)
	checkBezout(t, qpoly.Mul(g, w.integers(9, 1)), qpoly.Mul(g, w.integers(12, 1)))
}

// P3.6
func TestResultant(t *testing.T) {
	for _, x := range [][3]string{{"-2 0 1", "-3 1", "7"}, {"-3 1", "-2 0 1", "7"}, {"0 2", "5", "5"}, {"5", "0 2", "5"}, {"3", "4", "1"}, {"-1 1", "-2 1", "-1"}, {"-2 1", "-1 1", "1"}, {"", "4", "0"}, {"4", "", "0"}, {"", "", "0"}, {"1 1", "", "0"}, {"1 2 1", "1 1", "0"}, {"0 0 0 1", "-2", "-8"}, {"1/2 1/3", "0 0 1", "1/4"}} {
		if a := qpoly.Resultant(poly(x[0]), poly(x[1])); !sameRat(a, read(x[2])) {
			t.Error(x, rat.Print(a))
		}
	}
	pairs(func(p, q []api.Rat) {
		if len(p) > 9 || len(q) > 9 {
			return
		}
		want := new(big.Rat)
		if len(p) > 0 && len(q) > 0 {
			want = determinant(sylvester(toBig(p), toBig(q)))
		}
		if a := qpoly.Resultant(p, q); !sameRat(a, fromRat(want)) {
			t.Error(show(p, q), rat.Print(a), want)
		}
	})
}

// P3.6: the bound of Hadamard is reached, or nearly, by these; and contents are taken to high powers.
func TestLongResultants(t *testing.T) {
	w := &dice{state: 13}
	list := [][2][]api.Rat{{w.integers(12, 2), w.integers(11, 3)}, {w.integers(15, 1), w.integers(1, 6)}, {w.integers(3, 9), w.integers(14, 1)}, {poly("2147483647 0 0 1"), poly("0 0 0 4294967295")}, {poly("4294967295"), w.integers(14, 1)}}
	for _, x := range list {
		want := determinant(sylvester(toBig(x[0]), toBig(x[1])))
		if a := qpoly.Resultant(x[0], x[1]); !sameRat(a, fromRat(want)) {
			t.Error(show(x[0], x[1]), rat.Print(a), want)
		}
	}
	c := pow(t, poly("2"), 1000)
	if a := qpoly.Resultant(c, append(zeros(2000), read("1"))); !sameRat(qpoly.Lead(pow(t, c, 2000)), a) {
		t.Error("a long number")
	}
}

// P3.11
func TestDivision(t *testing.T) {
	triples(func(quo, q, r []api.Rat) {
		if len(q) == 0 {
			return
		}
		_, rem := toBig(r).divide(toBig(q))
		p := qpoly.Add(qpoly.Mul(quo, q), rem.list())
		a, b, e := qpoly.Div(p, q)
		if !same(a, quo) || !same(b, rem.list()) || e != api.OK {
			t.Error(show(quo, q, a, b), e)
		}
	})
}

// P3.11
func TestDivisors(t *testing.T) {
	triples(func(p, q, r []api.Rat) {
		if len(p)+len(q)+len(r) > 20 {
			return
		}
		g := qpoly.Gcd(p, q)
		for _, a := range [][]api.Rat{p, q} {
			if len(g) == 0 {
				continue
			}
			if _, rem, e := qpoly.Div(a, g); len(rem) > 0 || e != api.OK {
				t.Error("no divisor", show(a, g), e)
			}
		}
		_, u, v, e := qpoly.Bezout(p, q)
		if sum := qpoly.Add(qpoly.Mul(u, p), qpoly.Mul(v, q)); !same(sum, g) || e != api.OK {
			t.Error("no combination", show(p, q, u, v), e)
		}
		if !same(g, qpoly.Gcd(q, p)) {
			t.Error("order", show(p, q))
		}
		m := qpoly.Monic(r)
		if got := qpoly.Gcd(qpoly.Mul(p, m), qpoly.Mul(q, m)); !same(got, qpoly.Mul(g, m)) {
			t.Error("a common factor", show(p, q, m))
		}
	})
}

// P3.13
func TestLawsOfResultants(t *testing.T) {
	triples(func(p, q, r []api.Rat) {
		if len(p) == 0 || len(q) == 0 || len(r) == 0 || len(p)+len(q)+len(r) > 24 {
			return
		}
		a, b := qpoly.Resultant(p, r), qpoly.Resultant(q, r)
		if got := qpoly.Resultant(qpoly.Mul(p, q), r); !sameRat(got, rat.Mul(a, b)) {
			t.Error("product", show(p, q, r))
		}
		if (rat.Sign(a) == 0) != (qpoly.Deg(qpoly.Gcd(p, r)) > 0) {
			t.Error("coprime", show(p, r))
		}
		back := qpoly.Resultant(r, p)
		if qpoly.Deg(p)%2 == 1 && qpoly.Deg(r)%2 == 1 {
			back = rat.Neg(back)
		}
		if !sameRat(a, back) {
			t.Error("order", show(p, r))
		}
		if got := qpoly.Resultant(qpoly.Mul(p, r), qpoly.Mul(q, r)); qpoly.Deg(r) > 0 && rat.Sign(got) != 0 {
			t.Error("a common factor", show(p, q, r))
		}
	})
}
