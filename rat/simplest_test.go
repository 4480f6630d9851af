package rat_test

import (
	"math/big"
	"testing"

	"quadratrix/api"
	"quadratrix/num"
	"quadratrix/rat"
)

// P2.5
func TestSimplest(t *testing.T) {
	for _, x := range [][3]api.Rat{
		{quo(3, 10), quo(2, 5), quo(1, 3)},
		{quo(-5, 2), quo(-7, 3), quo(-5, 2)},
		{quo(-1, 1), quo(1, 2), quo(0, 1)},
		{quo(1, 7), quo(1, 7), quo(1, 7)},
		{quo(5, 2), quo(17, 3), quo(3, 1)},
		{quo(-17, 3), quo(-5, 2), quo(-3, 1)},
		{quo(2, 1), quo(5, 1), quo(2, 1)},
		{quo(-5, 1), quo(-2, 1), quo(-2, 1)},
		{quo(0, 1), quo(3, 1), quo(0, 1)},
		{quo(-3, 1), quo(0, 1), quo(0, 1)},
		{quo(0, 1), quo(0, 1), quo(0, 1)},
		{quo(1, 3), quo(1, 2), quo(1, 2)},
		{quo(3, 2), quo(2, 1), quo(2, 1)},
		{quo(314, 100), quo(315, 100), quo(22, 7)},
		{quo(314159, 100000), quo(31416, 10000), quo(355, 113)},
	} {
		lo, _ := rat.Make(x[0].N, x[0].D)
		hi, _ := rat.Make(x[1].N, x[1].D)
		if a, e := rat.Simplest(lo, hi); !same(a, x[2]) || e != api.OK {
			t.Error(texts(x[:]), rat.Print(a), e)
		}
	}
	for _, x := range [][2]api.Rat{{quo(1, 2), quo(1, 3)}, {quo(1, 1), quo(0, 1)}, {quo(-1, 3), quo(-1, 2)}, {quo(1, 5), quo(-1, 5)}, {quo(2, 1), quo(1, 1)}} {
		if a, e := rat.Simplest(x[0], x[1]); !isNothing(a) || e != api.ErrNone {
			t.Error(texts(x[:]), a, e)
		}
	}
}

// P2.5: a search through the denominators from 1 on finds the same.
func TestSimplestSearch(t *testing.T) {
	var list []api.Rat
	for d := 1; d <= 9; d++ {
		for n := -20; n <= 20; n++ {
			a, _ := rat.Of(n, d)
			list = append(list, a)
		}
	}
	for _, lo := range list {
		for _, hi := range list {
			if rat.Cmp(lo, hi) > 0 {
				continue
			}
			if a, e := rat.Simplest(lo, hi); !same(a, search(lo, hi)) || e != api.OK {
				t.Error(texts([]api.Rat{lo, hi, a}), e)
			}
		}
	}
}

// search returns the number of the interval with the least denominator, and the least absolute value of the numerator among these.
func search(lo, hi api.Rat) api.Rat {
	x, y := bigRat(lo), bigRat(hi)
	for d := int64(1); ; d++ {
		for n := int64(0); n <= 20*d; n++ {
			for _, m := range []int64{n, -n} {
				if r := big.NewRat(m, d); x.Cmp(r) <= 0 && r.Cmp(y) <= 0 {
					return fromBig(r)
				}
			}
		}
	}
}

// P2.10: of intervals of many widths, the ends of which have long common beginnings of their continued fractions.
func TestSimplestNumbers(t *testing.T) {
	w := &dice{state: 7}
	for i := range 1500 {
		lo := w.number(1 + i%8)
		hi := rat.Add(lo, width(w, i%8))
		a, e := rat.Simplest(lo, hi)
		if e != api.OK || !rat.Is(a) || rat.Cmp(lo, a) > 0 || rat.Cmp(a, hi) > 0 {
			t.Fatal(texts([]api.Rat{lo, hi, a}), e)
		}
		checkSimplest(t, lo, hi, a)
		checkLesser(t, w, lo, hi, a)
	}
}

// width returns a number from 0 on that is mostly small, down to 2^-64 n.
func width(w *dice, n int) api.Rat {
	a := w.number(2)
	if rat.Sign(a) < 0 {
		a = rat.Neg(a)
	}
	p, _ := rat.Pow(quo(1, 2), 64*w.below(n+1))
	return rat.Mul(a, p)
}

// checkSimplest looks at the two fractions of which a is the mediant: each fraction between them has a denominator and a numerator that are not less than those of a. So a is the simplest number just if both are outside the interval.
func checkSimplest(t *testing.T, lo, hi, a api.Rat) {
	t.Helper()
	x, y, r := bigRat(lo), bigRat(hi), bigRat(a)
	switch {
	case x.Sign() <= 0 && y.Sign() >= 0:
		if r.Sign() != 0 {
			t.Error("not 0", x, y, r)
		}
		return
	case y.Sign() < 0:
		x, y, r = y.Neg(y), x.Neg(x), r.Neg(r)
	}
	p, q := r.Num(), r.Denom()
	leftDen := big.NewInt(1)
	if q.Cmp(leftDen) > 0 {
		leftDen.ModInverse(p, q)
	}
	leftNum := new(big.Int).Mul(p, leftDen)
	leftNum.Sub(leftNum, big.NewInt(1))
	leftNum.Quo(leftNum, q)
	if new(big.Rat).SetFrac(leftNum, leftDen).Cmp(x) >= 0 {
		t.Error("there is a simpler one below", x, y, r)
	}
	rightNum, rightDen := new(big.Int).Sub(p, leftNum), new(big.Int).Sub(q, leftDen)
	if rightDen.Sign() > 0 && new(big.Rat).SetFrac(rightNum, rightDen).Cmp(y) <= 0 {
		t.Error("there is a simpler one above", x, y, r)
	}
}

// checkLesser narrows the interval around its simplest number, which stays the same.
func checkLesser(t *testing.T, w *dice, lo, hi, a api.Rat) {
	t.Helper()
	for _, part := range []api.Rat{quo(0, 1), quo(1, 3), quo(w.below(10), 10), quo(1, 1)} {
		low := rat.Add(a, rat.Mul(reduced(part), rat.Sub(lo, a)))
		for _, high := range []api.Rat{a, rat.Add(a, rat.Mul(quo(1, 2), rat.Sub(hi, a))), hi} {
			if b, e := rat.Simplest(low, high); !same(a, b) || e != api.OK {
				t.Error(texts([]api.Rat{lo, hi, low, high, a, b}), e)
			}
		}
	}
}

func reduced(a api.Rat) api.Rat {
	r, _ := rat.Make(a.N, a.D)
	return r
}

// P2.5: neighbours among the numbers of Fibonacci have the longest continued fractions.
func TestSimplestLong(t *testing.T) {
	a, b := num.Of(1), num.Of(1)
	for range 5000 {
		a, b = num.Add(a, b), a
	}
	x := api.Rat{N: a, D: b}
	next := api.Rat{N: num.Add(a, b), D: a}
	if r, e := rat.Simplest(x, x); !same(r, x) || e != api.OK {
		t.Error(e)
	}
	lo, hi := x, next
	if rat.Cmp(lo, hi) > 0 {
		lo, hi = hi, lo
	}
	if r, e := rat.Simplest(lo, hi); !same(r, x) || e != api.OK {
		t.Error(e)
	}
	if r, e := rat.Simplest(rat.Neg(hi), rat.Neg(lo)); !same(r, rat.Neg(x)) || e != api.OK {
		t.Error(e)
	}
}
