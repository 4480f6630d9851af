package tower_test

import (
	"testing"

	"quadratrix/api"
	"quadratrix/tower"
)

// pairs calls f for pairs of polynomials in one monomial, which have up to so many coefficients.
func pairs(f func(n int, p, q []naive)) {
	for n := 1; n <= 3; n++ {
		for i, p := range lists(n) {
			for k, q := range lists(n) {
				if n < 3 || (i+k)%2 == 0 {
					f(n, p, q)
				}
			}
		}
	}
}

// P6.2
func TestSums(t *testing.T) {
	pairs(func(n int, p, q []naive) {
		a, b := elems(p), elems(q)
		expectPoly(t, tower.PAdd(a, b), naiveAdd(p, q), "PAdd", a, b)
		expectPoly(t, tower.PSub(a, b), naiveSub(p, q), "PSub", a, b)
		expectPoly(t, tower.PMul(a, b), naiveMul(p, q), "PMul", a, b)
		if len(q) > 0 {
			expectPoly(t, tower.PScale(a, b[0]), naiveScale(p, q[0]), "PScale", a, b[:1])
		}
		if len(tower.PScale(a, tower.Whole(0))) > 0 || !tower.SamePoly(tower.PScale(a, tower.Whole(1)), a) {
			t.Error("PScale", showPoly(a))
		}
	})
}

// P6.2, P6.6
func TestDivMod(t *testing.T) {
	pairs(func(n int, p, q []naive) {
		a, b := elems(p), elems(q)
		quo, rem, e := tower.PDivMod(a, b)
		if len(q) == 0 {
			if len(quo)+len(rem) > 0 || e != api.ErrZero {
				t.Error(showPoly(a), e)
			}
			return
		}
		wantQuo, wantRem := naiveDivide(p, q)
		expectPoly(t, quo, wantQuo, "quotient", a, b)
		expectPoly(t, rem, wantRem, "remainder", a, b)
		if back := tower.PAdd(tower.PMul(quo, b), rem); e != api.OK || !tower.SamePoly(back, a) || len(rem) >= len(b) {
			t.Error(showPoly(a), showPoly(b), showPoly(back), e)
		}
	})
	for _, x := range [][4]string{
		{"0,0,1", "1,x", "-1/x^2,1/x", "1/x^2"}, {"0,0,1", "5", "0,0,1/5", ""}, {"1", "0,1", "", "1"}, {"", "x", "", ""}, {"x,t", "u,1", "t", "x-t*u"}, {"1,2,3,4", "-1/2,2", "3/2,2,2", "7/4"},
		{"1,0,0,0,0,0,1", "x,x+1", "-x^5/(x+1)^6,x^4/(x+1)^5,-x^3/(x+1)^4,x^2/(x+1)^3,-x/(x+1)^2,1/(x+1)", "1+x^6/(x+1)^6"},
	} {
		quo, rem, e := tower.PDivMod(poly(x[0]), poly(x[1]))
		if !tower.SamePoly(quo, poly(x[2])) || !tower.SamePoly(rem, poly(x[3])) || e != api.OK {
			t.Error(x, showPoly(quo), showPoly(rem), e)
		}
	}
}

// P6.2, P6.6
func TestGcd(t *testing.T) {
	pairs(func(n int, p, q []naive) {
		a, b := elems(p), elems(q)
		g := tower.PGcd(a, b)
		expectPoly(t, g, naiveGcd(p, q), "PGcd", a, b)
		if len(g) == 0 {
			return
		}
		left, rem, _ := tower.PDivMod(a, g)
		right, rem1, _ := tower.PDivMod(b, g)
		if len(rem)+len(rem1) > 0 || len(tower.PGcd(left, right)) != 1 {
			t.Error("no greatest divisor", showPoly(a), showPoly(b), showPoly(g))
		}
	})
	for _, x := range [][3]string{
		{"-1,0,1", "2,2", "1,1"}, {"", "", ""}, {"", "0,5", "0,1"}, {"0,5", "", "0,1"}, {"3", "", "1"}, {"3", "5", "1"}, {"x", "x", "1"}, {"", "x^2,x", "x,1"}, {"x^2,2*x,1", "x,1", "x,1"}, {"x^2,2*x,1", "-x^2,0,1", "x,1"}, {"x,1", "x+1,1", "1"},
		{"x*t,x+t,1", "t/(x+1),1/(x+1)", "t,1"}, {"0,x,1", "0,0,1", "0,1"}, {"x^3*t,x^2", "x*t^2,t", "x*t,1"},
	} {
		if g := tower.PGcd(poly(x[0]), poly(x[1])); !tower.SamePoly(g, poly(x[2])) {
			t.Error(x, showPoly(g))
		}
	}
}

// P6.2
func TestEval(t *testing.T) {
	values := []naive{read("0"), read("1"), read("-2/3"), read("x"), read("1/(x+1)"), read("t"), read("(t+x)/(t-1)"), read("u-1/x"), read("t12"), read("t5/t4")}
	for n := 1; n <= 3; n++ {
		for i, p := range lists(n) {
			for k, a := range values {
				if n == 3 && (i+k)%3 > 0 {
					continue
				}
				want := number(0, 1)
				for j := len(p) - 1; j >= 0; j-- {
					want = want.times(a).plus(p[j])
				}
				expect(t, tower.PEval(elems(p), a.elem()), want, "PEval", append(elems(p), a.elem())...)
			}
		}
	}
	for _, x := range [][3]string{{"1,x", "x", "x^2+1"}, {"", "x", "0"}, {"5", "x", "5"}, {"x,1", "-x", "0"}, {"1,2,1", "1/x", "(x+1)^2/x^2"}, {"0,t", "1/t", "1"}, {"x,0,1", "1/2", "x+1/4"}} {
		if got := tower.PEval(poly(x[0]), elem(x[1])); !isSame(got, elem(x[2])) {
			t.Error(x, show(got))
		}
	}
}

// P6.2, P6.5
func TestParts(t *testing.T) {
	for _, a := range some() {
		e := a.elem()
		for n := max(1, a.level); n <= 12; n++ {
			p, q := a.parts(n)
			num, den := tower.Num(n, e), tower.Den(n, e)
			expectPoly(t, num, p, "Num", []api.Elem{e})
			expectPoly(t, den, q, "Den", []api.Elem{e})
			if back, err := tower.Frac(n, num, den); err != api.OK || !isSame(back, e) {
				t.Error(n, show(e), show(back), err)
			}
		}
	}
	if len(tower.Num(2, tower.Whole(0))) != 0 || !tower.SamePoly(tower.Num(2, tower.Mono(1)), poly("x")) || !tower.SamePoly(tower.Den(2, tower.Mono(1)), poly("1")) {
		t.Error("of lower levels")
	}
}

// P6.2, P6.5
func TestFrac(t *testing.T) {
	pairs(func(n int, p, q []naive) {
		a, b := elems(p), elems(q)
		got, e := tower.Frac(n, a, b)
		if len(q) == 0 {
			expectZero(t, got, e, api.ErrZero, "Frac")
			return
		}
		expect(t, got, naiveFrac(n, p, q), "Frac", append(a, b...)...)
		by := poly("1,2")
		if n > 1 {
			by = poly("x,1/(x+1),3")
		}
		if more, e1 := tower.Frac(n, tower.PMul(a, by), tower.PMul(b, by)); e != api.OK || e1 != api.OK || !isSame(got, more) {
			t.Error("multiplied", showPoly(a), showPoly(b), show(more), e, e1)
		}
	})
	for _, x := range []struct {
		n          int
		p, q, want string
	}{
		{2, "0,x", "x,x", "t/(t+1)"}, {1, "", "3", "0"}, {5, "", "0,1", "0"}, {1, "3", "6", "1/2"}, {2, "x^2", "x", "x"}, {2, "x", "x+1", "x/(x+1)"}, {3, "t*x,x", "t,1", "x"}, {12, "0,1", "t11,1", "t12/(t12+t11)"}, {2, "1", "0,x", "1/(x*t)"}, {4, "0,1", "1", "t4"},
	} {
		if got, e := tower.Frac(x.n, poly(x.p), poly(x.q)); e != api.OK || !isSame(got, elem(x.want)) {
			t.Error(x, show(got), e)
		}
	}
	if got, e := tower.Frac(2, poly("x"), nil); e != api.ErrZero {
		t.Error(show(got), e)
	}
	if got, e := tower.Frac(2, nil, nil); e != api.ErrZero {
		t.Error(show(got), e)
	}
}
