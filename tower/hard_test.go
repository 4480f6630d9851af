package tower_test

import (
	"fmt"
	"slices"
	"testing"

	"quadratrix/api"
	"quadratrix/num"
	"quadratrix/rat"
	"quadratrix/tower"
)

// long returns an integer with so many words.
func (c *chance) long(words int) api.Elem {
	a := api.Int{Neg: c.below(2) == 0}
	for range words {
		a.Abs = append(a.Abs, uint32(c.below(1<<31))<<1|1)
	}
	return tower.Rat(rat.Whole(a))
}

// longPoly returns a polynomial of a degree in the monomial n, whose coefficients have integers of so many words.
func (c *chance) longPoly(n, degree, words int) []api.Elem {
	var out []api.Elem
	for range degree + 1 {
		a := c.long(words)
		for k := 1; k < n; k++ {
			a = tower.Add(tower.Mul(a, tower.Mono(k)), c.long(words))
		}
		out = append(out, a)
	}
	return out
}

func monic(t *testing.T, p []api.Elem) []api.Elem {
	t.Helper()
	c, e := tower.Div(tower.Whole(1), p[len(p)-1])
	if e != api.OK {
		t.Fatal(e)
	}
	return tower.PScale(p, c)
}

// checkGcd checks the greatest common divisor of two products with the factor g, of which the other factors are known to be coprime.
func checkGcd(t *testing.T, p, q, g []api.Elem) {
	t.Helper()
	if d := tower.PGcd(p, q); len(d) != 1 {
		t.Error("not coprime", showPoly(p), showPoly(q), showPoly(d))
	}
	if d := tower.PGcd(tower.PMul(p, g), tower.PMul(q, g)); !slices.EqualFunc(d, monic(t, g), isSame) {
		t.Error(showPoly(p), showPoly(q), showPoly(g), showPoly(d))
	}
}

// P6.6: long coefficients, which take many prime numbers, in up to three monomials.
func TestLongGcd(t *testing.T) {
	c := chance(21)
	for n := 1; n <= 3; n++ {
		for i := range 4 {
			words := 1 + 3*i
			checkGcd(t, c.longPoly(n, 3, 1), c.longPoly(n, 4-i, 2), c.longPoly(n, 1+i%2, words))
		}
	}
	checkGcd(t, c.longPoly(1, 40, 3), c.longPoly(1, 30, 1), c.longPoly(1, 30, 2))
}

// P6.6: the numbers 2^30 + 3, + 7 and so on are prime; modulo them the polynomials have a divisor of a higher degree, or a lesser degree themselves.
func TestUnluckyPrimes(t *testing.T) {
	m := tower.Whole(1)
	for _, k := range []int{1<<30 + 3, 1<<30 + 7, 1<<30 + 9, 1<<30 + 15, 1<<30 + 19} {
		m = tower.Mul(m, tower.Whole(k))
		one, zero, x := tower.Whole(1), tower.Whole(0), tower.Mono(1)
		shifted, line := []api.Elem{m, one}, []api.Elem{zero, one} // t + m and t
		low := []api.Elem{one, m}                                  // m t + 1
		far := []api.Elem{tower.Mul(m, x), one}                    // t + m x
		flat := []api.Elem{one, tower.Mul(m, x)}                   // m x t + 1
		wide := []api.Elem{x, tower.Add(tower.Mul(m, x), one)}     // m x t + t + x
		plain := []api.Elem{x, one}
		for _, g := range [][]api.Elem{{one}, {one, one}, shifted, low, far, flat, wide, {x, zero, one}, tower.PMul(low, flat)} {
			checkGcd(t, shifted, line, g)
			checkGcd(t, far, line, g)
			checkGcd(t, far, shifted, g)
			checkGcd(t, low, line, g)
			checkGcd(t, flat, line, g)
			checkGcd(t, wide, plain, g)
			checkGcd(t, tower.PMul(far, wide), tower.PMul(line, plain), g)
		}
	}
}

// P6.6: divisors that lack some of the monomials, and such that have them in their coefficients alone.
func TestMonomialsOfDivisors(t *testing.T) {
	for _, x := range [][3]string{
		{"t*x+1,u*0+x", "t,x,t", "u*0+x,1"}, {"t,1", "t+1,1", "x,1"}, {"x,1", "x+1,1", "t,1"}, {"t,1", "x,1", "5,0,2"}, {"t^3+x,t,1", "x^3+t,x,1", "t*x,t+x,1"}, {"t*x,t+x", "t/x,1/(t+x)", "1/(t*x),t/x,x/t"}, {"t,0,0,0,0,0,1", "x,0,0,0,0,0,1", "t+x,0,0,0,1"},
	} {
		checkGcd(t, poly(x[0]), poly(x[1]), poly(x[2]))
	}
	for i := range 12 {
		checkGcd(t, poly("2,1"), []api.Elem{tower.Whole(2), tower.Mono(i%11 + 1)}, []api.Elem{tower.Mono(11 - i%11), tower.Whole(1)})
	}
}

// P6.3: all monomials at the same time.
func TestAllMonomials(t *testing.T) {
	sum, other, product := tower.Whole(1), tower.Whole(-3), tower.Whole(1)
	for n := 1; n <= api.MaxTower; n++ {
		x := tower.Mono(n)
		sum, other = tower.Add(sum, x), tower.Add(other, tower.Mul(tower.Whole(n*n), x))
		product = tower.Mul(product, tower.Add(x, tower.Whole(n)))
	}
	if q, e := tower.Div(tower.Mul(product, sum), tower.Mul(product, other)); e != api.OK || !tower.Is(q) || !isSame(tower.Mul(q, other), sum) {
		t.Error("many terms", show(q), e)
	}
	if q, e := tower.Div(tower.Mul(product, sum), tower.Sub(product, sum)); e != api.OK || !isSame(tower.Mul(q, tower.Sub(product, sum)), tower.Mul(product, sum)) {
		t.Error("many terms", e)
	}
	list := []api.Elem{sum, other, tower.Mul(tower.Mono(7), sum)}
	for i, a := range list {
		for k, b := range list {
			q, e := tower.Div(tower.Mul(a, sum), tower.Mul(b, sum))
			direct, e1 := tower.Div(a, b)
			if !isSame(q, direct) || e != api.OK || e1 != api.OK || !tower.Is(q) {
				t.Error("common factor", i, k, e, e1)
			}
			if back := tower.Mul(q, b); !isSame(back, a) {
				t.Error("back", i, k)
			}
			p, _ := tower.Div(tower.Whole(1), a)
			r, _ := tower.Div(tower.Whole(1), b)
			joint, _ := tower.Div(tower.Add(a, b), tower.Mul(a, b))
			if s := tower.Add(p, r); !isSame(s, joint) {
				t.Error("fractions", i, k)
			}
		}
	}
}

// P6.2: high degrees, products of which are computed by way of long integers.
func TestHighDegrees(t *testing.T) {
	x := tower.Mono(1)
	low, high := tower.Sub(x, tower.Whole(1)), tower.Whole(0)
	for k := range 300 {
		p, _ := tower.Pow(x, k)
		high = tower.Add(high, p)
	}
	p, _ := tower.Pow(x, 300)
	if got := tower.Mul(high, low); !isSame(got, tower.Sub(p, tower.Whole(1))) {
		t.Error(show(got))
	}
	if got, e := tower.Div(tower.Sub(p, tower.Whole(1)), high); e != api.OK || !isSame(got, low) {
		t.Error(show(got), e)
	}
	q, _ := tower.Pow(x, 180)
	if got := tower.PGcd(tower.Sub(p, tower.Whole(1)).Num, tower.Sub(q, tower.Whole(1)).Num); len(got) != 61 {
		t.Error(showPoly(got))
	}
	c := chance(22)
	for i := range 8 {
		a, b := c.longPoly(1, 7+i, 1+i%3), c.longPoly(1, 6, 1+i)
		want := naiveMul(naiveList(a), naiveList(b))
		expectPoly(t, tower.PMul(a, b), want, "PMul", a, b)
	}
}

// G6, G7: arguments stay as they are, and results are the same each time.
func TestArgumentsStay(t *testing.T) {
	names := []string{"(t*u+x/t)/(u^2-x)", "(t+1/x)/(u+t)", "(x+1)/(x^2-3)", "t/x", "7/3", "(u*t-x)/3"}
	p := poly("t/x,1/(t+x),x,t-1")
	q := poly("x,t/(t-1),2*x/3")
	run := func(a, b api.Elem, p, q []api.Elem) string {
		quo, e := tower.Div(a, b)
		power, e1 := tower.Pow(a, -3)
		divided, rem, e2 := tower.PDivMod(p, q)
		frac, e3 := tower.Frac(3, p, q)
		at, e4 := tower.At(a, point("3 5 7"))
		return fmt.Sprint(show(tower.Add(a, b)), show(tower.Sub(a, b)), show(tower.Mul(a, b)), show(quo), show(power), show(tower.Neg(a)), show(frac), rat.Print(at), e, e1, e2, e3, e4,
			showPoly(tower.Num(3, a)), showPoly(tower.Den(3, a)), showPoly(divided), showPoly(rem), showPoly(tower.PAdd(p, q)), showPoly(tower.PSub(p, q)), showPoly(tower.PMul(p, q)), showPoly(tower.PScale(p, q[0])), showPoly(tower.PGcd(p, q)), show(tower.PEval(p, b)), tower.Is(a), tower.IsPoly(3, p), tower.Same(a, b), tower.SamePoly(p, q))
	}
	for _, s := range names {
		for _, w := range names {
			a, b := elem(s), elem(w)
			first := run(a, b, p, q)
			if !isSame(a, elem(s)) || !isSame(b, elem(w)) || !tower.SamePoly(p, poly("t/x,1/(t+x),x,t-1")) || !tower.SamePoly(q, poly("x,t/(t-1),2*x/3")) {
				t.Fatal("an argument has changed", s, w)
			}
			if again := run(a, b, p, q); again != first {
				t.Error("another result", s, w)
			}
		}
	}
}

// G1: for data that are not valid nothing is asked but to return.
func TestInvalidData(t *testing.T) {
	good := []api.Elem{tower.Whole(0), tower.Whole(2), tower.Mono(1), elem("(t+1)/(t-x)"), tower.Mono(12)}
	bad := invalid()
	for _, a := range bad {
		for _, b := range slices.Concat(good, bad[:12]) {
			for _, pair := range [][2]api.Elem{{a, b}, {b, a}} {
				x, y := pair[0], pair[1]
				tower.Add(x, y)
				tower.Sub(x, y)
				tower.Mul(x, y)
				tower.Div(x, y)
				tower.PEval([]api.Elem{x, x}, y)
				tower.PScale([]api.Elem{x, x}, y)
				p, q := []api.Elem{x, y}, []api.Elem{y, y, x}
				tower.PAdd(p, q)
				tower.PSub(p, q)
				tower.PMul(p, q)
				tower.PDivMod(p, q)
				tower.PGcd(p, q)
				tower.Frac(2, p, q)
			}
		}
		tower.Neg(a)
		tower.IsZero(a)
		tower.Pow(a, 3)
		tower.Pow(a, -2)
		tower.At(a, point("1 2"))
		tower.At(a, nil)
		for _, n := range []int{-1, 0, 1, 12, 13, 1 << 60} {
			tower.Num(n, a)
			tower.Den(n, a)
			tower.Frac(n, []api.Elem{a}, []api.Elem{tower.Whole(1), a})
			tower.Mono(n)
		}
	}
	for _, q := range numbers() {
		tower.IsZero(tower.Rat(q))
		tower.At(tower.Mono(2), []api.Rat{q, q})
	}
	zero := api.Elem{Q: rat.Whole(num.Of(0))}
	tower.PDivMod([]api.Elem{zero}, []api.Elem{zero})
	tower.PGcd([]api.Elem{zero}, []api.Elem{zero, zero})
	tower.PGcd(nil, []api.Elem{zero})
	tower.Frac(1, []api.Elem{zero, zero}, []api.Elem{zero})
}
