package num_test

import (
	"math/big"
	"testing"

	"quadratrix/api"
	"quadratrix/num"
)

// P1.3
func TestDiv(t *testing.T) {
	pairs(func(a, b api.Int) {
		q, r, e := num.Div(a, b)
		if num.Sign(b) == 0 {
			if !zero(q, r) || e != api.ErrZero {
				t.Error(a, b, q, r, e)
			}
			return
		}
		quo, rem := new(big.Int).DivMod(toBig(a), toBig(b), new(big.Int))
		expect(t, "quotient", q, quo, a, b)
		expect(t, "remainder", r, rem, a, b)
		if e != api.OK {
			t.Error(a, b, e)
		}
	})
}

// P1.3
func TestDivSigns(t *testing.T) {
	for _, x := range [][4]int64{{7, 2, 3, 1}, {-7, 2, -4, 1}, {7, -2, -3, 1}, {-7, -2, 4, 1}, {0, 5, 0, 0}, {-6, 3, -2, 0}, {6, -3, -2, 0}, {-1, 1 << 40, -1, 1<<40 - 1}} {
		q, r, e := num.Div(whole(x[0]), whole(x[1]))
		if !same(q, whole(x[2])) || !same(r, whole(x[3])) || e != api.OK {
			t.Error(x, q, r, e)
		}
	}
}

// P1.8: quotients are put together so that the words of the quotient that are guessed come near the borders.
func TestDivision(t *testing.T) {
	triples(func(q, b, c api.Int) {
		if num.Sign(b) == 0 {
			return
		}
		last := num.Sub(num.Abs(b), whole(1))
		_, mod, _ := num.Div(c, b)
		for _, r := range []api.Int{whole(0), mod, last} {
			quo, rem, e := num.Div(num.Add(num.Mul(q, b), r), b)
			if !same(quo, q) || !same(rem, r) || e != api.OK {
				t.Error(q, b, r, quo, rem, e)
			}
		}
	})
}

// P1.4
func TestGcd(t *testing.T) {
	pairs(func(a, b api.Int) {
		x, y := new(big.Int).Abs(toBig(a)), new(big.Int).Abs(toBig(b))
		expect(t, "Gcd", num.Gcd(a, b), new(big.Int).GCD(nil, nil, x, y), a, b)
	})
	for _, x := range [][3]int64{{-12, 18, 6}, {0, -5, 5}, {-5, 0, 5}, {0, 0, 0}, {1, 0, 1}} {
		if g := num.Gcd(whole(x[0]), whole(x[1])); !same(g, whole(x[2])) {
			t.Error(x, g)
		}
	}
}

// P1.4
func TestBezout(t *testing.T) {
	for _, x := range [][5]int64{{12, 18, 6, 2, -1}, {18, 12, 6, 1, -1}, {-5, 0, 5, -1, 0}, {5, 0, 5, 1, 0}, {0, 0, 0, 0, 0}, {3, 7, 1, 5, -2}, {-3, 7, 1, 2, 1}, {3, -7, 1, 5, 2}, {0, -4, 4, 0, -1}, {8, -4, 4, 0, -1}, {9, 1, 1, 0, 1}} {
		g, u, v, e := num.Bezout(whole(x[0]), whole(x[1]))
		if !same(g, whole(x[2])) || !same(u, whole(x[3])) || !same(v, whole(x[4])) || e != api.OK {
			t.Error(x, g, u, v, e)
		}
	}
	pairs(func(a, b api.Int) { checkBezout(t, a, b) })
}

func checkBezout(t *testing.T, a, b api.Int) {
	g, u, v, e := num.Bezout(a, b)
	if e != api.OK || !canonical(g) || !canonical(u) || !canonical(v) {
		t.Error(a, b, g, u, v, e)
		return
	}
	x, y := toBig(a), toBig(b)
	gcd := new(big.Int).GCD(nil, nil, new(big.Int).Abs(x), new(big.Int).Abs(y))
	expect(t, "Bezout", g, gcd, a, b)
	combined := new(big.Int).Add(new(big.Int).Mul(toBig(u), x), new(big.Int).Mul(toBig(v), y))
	if combined.Cmp(gcd) != 0 {
		t.Error("no combination", a, b, g, u, v)
	}
	if len(b.Abs) == 0 {
		expect(t, "u", u, big.NewInt(int64(x.Sign())), a, b)
		expect(t, "v", v, big.NewInt(0), a, b)
		return
	}
	// The numbers u that will do differ by multiples of |b| / g.
	period := new(big.Int).Quo(new(big.Int).Abs(y), gcd)
	if u.Neg || toBig(u).Cmp(period) >= 0 {
		t.Error("not the least u", a, b, u)
	}
}

// P1.9: of numbers with a common divisor of many sizes.
func TestCommonDivisors(t *testing.T) {
	triples(func(a, b, c api.Int) {
		x, y := num.Mul(a, c), num.Mul(b, c)
		g := num.Gcd(x, y)
		if !same(g, num.Mul(num.Gcd(a, b), num.Abs(c))) || !same(g, num.Gcd(y, x)) {
			t.Error("Gcd", a, b, c, g)
		}
		for _, n := range []api.Int{x, y} {
			if _, r, e := num.Div(n, g); len(g.Abs) > 0 && (!zero(r) || e != api.OK) {
				t.Error("no divisor", n, g)
			}
		}
		checkBezout(t, x, y)
	})
}

// P1.4: neighbours among the numbers of Fibonacci have the most steps, and powers of two quotients of one bit pattern.
func TestLongEuclid(t *testing.T) {
	a, b := whole(0), whole(1)
	for range 3000 {
		a, b = b, num.Add(a, b)
	}
	checkBezout(t, a, b)
	checkBezout(t, num.Neg(b), a)
	p := power(t, whole(2), 3000)
	for _, n := range []api.Int{num.Sub(p, whole(1)), num.Add(p, whole(1)), p} {
		for _, k := range []int{1, 31, 32, 64, 65, 1500, 2937} {
			m := power(t, whole(2), k)
			checkBezout(t, n, num.Sub(m, whole(1)))
			checkBezout(t, num.Add(m, whole(1)), n)
			checkBezout(t, n, num.Add(n, m))
		}
	}
}
