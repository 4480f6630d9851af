package qfac_test

import (
	"math/big"
	"slices"
	"testing"

	"quadratrix/api"
	"quadratrix/num"
	"quadratrix/qfac"
)

// congruent reports whether the coefficients of p - q are multiples of m.
func congruent(p, q []*big.Int, m *big.Int) bool {
	for i := range max(len(p), len(q)) {
		d := new(big.Int)
		if i < len(p) {
			d.Add(d, p[i])
		}
		if i < len(q) {
			d.Sub(d, q[i])
		}
		if d.Mod(d, m).Sign() != 0 {
			return false
		}
	}
	return true
}

func bigs(p []api.Int) []*big.Int {
	var out []*big.Int
	for _, a := range p {
		out = append(out, toBig(a))
	}
	return out
}

func bigInts(p []int) []*big.Int {
	var out []*big.Int
	for _, a := range p {
		out = append(out, big.NewInt(int64(a)))
	}
	return out
}

func timesBig(p, q []*big.Int) []*big.Int {
	var out []*big.Int
	for i, a := range p {
		for j, b := range q {
			if i+j == len(out) {
				out = append(out, new(big.Int))
			}
			out[i+j].Add(out[i+j], new(big.Int).Mul(a, b))
		}
	}
	return out
}

// isModulo reports whether p is canonical, with coefficients from 0 on, below m.
func isModulo(p []api.Int, m *big.Int) bool {
	for _, a := range p {
		if !num.Is(a) || a.Neg || toBig(a).Cmp(m) >= 0 {
			return false
		}
	}
	return len(p) == 0 || num.Sign(p[len(p)-1]) != 0
}

// expectLift checks that Lift returns the polynomials that the document describes; there is just one such pair.
func expectLift(t *testing.T, p []api.Int, g, h []int, m, k int) (a, b []api.Int) {
	t.Helper()
	oldG, oldH := slices.Clone(g), slices.Clone(h)
	a, b, e := qfac.Lift(p, g, h, m, k)
	if !slices.Equal(g, oldG) || !slices.Equal(h, oldH) {
		t.Error("arguments changed:", oldG, oldH)
	}
	if e != api.OK {
		t.Fatal(p, g, h, m, k, e)
	}
	prime := big.NewInt(int64(m))
	power := new(big.Int).Exp(prime, big.NewInt(int64(k)), nil)
	switch {
	case !isModulo(a, power) || !isModulo(b, power):
		t.Fatal(p, g, h, m, k, a, b)
	case len(a) != len(g) || num.Cmp(a[len(a)-1], num.Of(1)) != 0:
		t.Fatal(p, g, h, m, k, a)
	case !congruent(bigs(a), bigInts(g), prime) || !congruent(bigs(b), bigInts(h), prime):
		t.Fatal(p, g, h, m, k, a, b)
	case !congruent(bigs(p), timesBig(bigs(a), bigs(b)), power):
		t.Fatal(p, g, h, m, k, a, b)
	}
	return a, b
}

// P4.3
func TestLift(t *testing.T) {
	for _, x := range []struct {
		p    string
		g, h []int
		m, k int
		a, b string
	}{
		{"1 0 1", []int{2, 1}, []int{3, 1}, 5, 2, "7 1", "18 1"}, {"1 0 1", []int{3, 1}, []int{2, 1}, 5, 2, "18 1", "7 1"}, {"1 0 1", []int{2, 1}, []int{3, 1}, 5, 1, "2 1", "3 1"},
		{"-1 0 1", []int{1, 1}, []int{2, 1}, 3, 4, "1 1", "80 1"}, {"1 5 6", []int{3, 1}, []int{2, 1}, 5, 1, "3 1", "2 1"}, {"1 5 6", []int{3, 1}, []int{2, 1}, 5, 2, "13 1", "2 6"},
		{"2 1", []int{1}, []int{2, 1}, 5, 3, "1", "2 1"}, {"-2 -6", []int{1}, []int{3, 4}, 5, 2, "1", "23 19"}, {"-2 -6", []int{2, 1}, []int{4}, 5, 2, "17 1", "19"},
		{"7", []int{1}, []int{2}, 5, 2, "1", "7"}, {"0 1", []int{0, 1}, []int{1}, 2, 10, "0 1", "1"}, {"0 1 1", []int{0, 1}, []int{1, 1}, 2, 3, "0 1", "1 1"},
	} {
		a, b := expectLift(t, ints(x.p), x.g, x.h, x.m, x.k)
		if !slices.EqualFunc(a, ints(x.a), same) || !slices.EqualFunc(b, ints(x.b), same) {
			t.Error(x, a, b)
		}
	}
}

func same(a, b api.Int) bool {
	return a.Neg == b.Neg && slices.Equal(a.Abs, b.Abs)
}

// P4.3: what is wrong with the arguments.
func TestLiftArguments(t *testing.T) {
	for _, x := range []struct {
		p    string
		g, h []int
		m, k int
		e    api.Errno
	}{
		{"1 0 1", []int{2, 1}, []int{3, 1}, 5, 1, api.OK}, {"1 0 1", []int{2, 1}, []int{3, 1}, 5, 1000, api.OK},
		{"1 0 1", []int{2, 1}, []int{3, 1}, 5, 0, api.ErrArg}, {"1 0 1", []int{2, 1}, []int{3, 1}, 5, 1001, api.ErrArg}, {"1 0 1", []int{2, 1}, []int{3, 1}, 5, -1, api.ErrArg}, {"1 0 1", []int{2, 1}, []int{3, 1}, 5, -1 << 63, api.ErrArg}, {"1 0 1", []int{2, 1}, []int{3, 1}, 5, 1<<63 - 1, api.ErrArg},
		{"", nil, nil, 6, 1, api.ErrArg}, {"", nil, nil, 5, 0, api.ErrArg}, {"0 0 1", []int{0, 1}, []int{1, 1}, 4, 2, api.ErrArg},
		{"1 0 1", []int{1, 1}, []int{1, 1}, 2, 3, api.ErrNone}, // not coprime
		{"0 0 1", []int{0, 1}, []int{0, 1}, 7, 3, api.ErrNone},
		{"2 4 2", []int{1, 1}, []int{2, 2}, 5, 3, api.ErrNone},
		{"0 0 1", []int{0, 1}, []int{1, 1}, 5, 2, api.ErrNone}, // another product
		{"1 0 1", []int{2, 1}, []int{3, 2}, 5, 1, api.ErrNone},
		{"1 0 1", []int{2, 1}, []int{3, 1}, 7, 2, api.ErrNone},
		{"1 0 1 1", []int{2, 1}, []int{3, 1}, 5, 2, api.ErrNone},
		{"2 1", []int{2, 1}, []int{3, 1}, 5, 2, api.ErrNone},
		{"2 0 2", []int{4, 2}, []int{3, 1}, 5, 2, api.ErrNone}, // not monic
		{"3", []int{3}, []int{1}, 5, 2, api.ErrNone},
		{"1 0 1 5", []int{2, 1}, []int{3, 1}, 5, 2, api.ErrNone}, // another degree of p
		{"6 -5", []int{1}, []int{1}, 5, 2, api.ErrNone},
		{"", []int{2, 1}, []int{3, 1}, 5, 2, api.ErrNone}, {"", nil, nil, 5, 1, api.ErrNone}, {"1 1", nil, []int{1, 1}, 5, 1, api.ErrNone}, {"1 1", []int{1, 1}, nil, 5, 1, api.ErrNone}, {"", nil, []int{1, 1}, 5, 1, api.ErrNone}, {"5", []int{1}, nil, 5, 1, api.ErrNone},
	} {
		a, b, e := qfac.Lift(ints(x.p), x.g, x.h, x.m, x.k)
		if e != x.e || e != api.OK && len(a)+len(b) > 0 {
			t.Error(x, a, b, e)
		}
	}
	for _, m := range notPrimes {
		if a, b, e := qfac.Lift(ints("1 0 1"), []int{2, 1}, []int{3, 1}, m, 2); e != api.ErrArg || len(a)+len(b) > 0 {
			t.Error(m, a, b, e)
		}
	}
}

// coprime returns polynomials modulo m that are coprime, the first one monic.
func (c *chance) coprime(m, n int) (g, h []int) {
	for {
		g, h = c.modulo(c.below(n), m), c.modulo(c.below(n), m)
		g[len(g)-1] = 1
		p := timesMod(g, h, m)
		if _, e := qfac.FactorMod(p, m); e == api.OK || len(p) == 1 {
			return g, h
		}
	}
}

// lifted returns a polynomial with long integers that is g h modulo m.
func (c *chance) lifted(g, h []int, m int) []api.Int {
	out := ints("")
	for _, a := range timesMod(g, h, m) {
		more := num.Mul(c.integer(200).N, num.Of(m))
		out = append(out, num.Add(num.Of(a), more))
	}
	return out
}

// P4.3, P4.8
func TestLaws(t *testing.T) {
	w := &chance{3}
	list := primeNumbers()
	for i := range 300 {
		m := list[w.below(len(list))]
		if i%2 == 0 {
			m = list[w.below(5)]
		}
		g, h := w.coprime(m, 2+i%12)
		p := w.lifted(g, h, m)
		k := 1 + w.below(40)
		a, b := expectLift(t, p, g, h, m, k)
		less := 1 + w.below(k)
		c, d := expectLift(t, p, g, h, m, less)
		power := new(big.Int).Exp(big.NewInt(int64(m)), big.NewInt(int64(less)), nil)
		if !congruent(bigs(a), bigs(c), power) || !congruent(bigs(b), bigs(d), power) {
			t.Error(p, g, h, m, k, less)
		}
	}
}

// P4.3: the greatest exponent, squares modulo m, and a degree above api.MaxDegree.
func TestLiftLong(t *testing.T) {
	w := &chance{4}
	for _, m := range []int{2, 997} {
		g, h := w.coprime(m, 10)
		expectLift(t, w.lifted(g, h, m), g, h, m, api.MaxLift)
	}
	for k := 1; k < 70; k++ {
		expectLift(t, ints("0 0 0 1 3 3 1"), []int{0, 0, 0, 1}, []int{1, 0, 0, 1}, 3, k)
		expectLift(t, ints("7 14 -1 3 4"), []int{0, 0, 1}, []int{6, 3, 4}, 7, k)
	}
	long := slices.Repeat([]int{0}, 150)
	long[0] = 1
	long = append(long, 1)
	expectLift(t, numbers(product(wholes(1, 1, 0, 3), wholes(long...))), long, []int{1, 1, 0, 3}, 7, 20)
}

// P4.3: lists that are no polynomials of the right form.
func TestLiftReturns(t *testing.T) {
	odd := [][]api.Int{{{}}, {{Neg: true}}, {{Abs: []uint32{0}}}, {{Abs: []uint32{1, 0}}, num.Of(1)}, ints("1 0"), {num.Of(1), {Neg: true}, num.Of(1)}, {{Abs: []uint32{1, 0}}}}
	for _, p := range odd {
		qfac.Lift(p, []int{2, 1}, []int{3, 1}, 5, 3)
		qfac.Reduce(p, 5)
		qfac.Bound(p)
	}
	for _, g := range [][]int{{0}, {0, 0}, {2, 1, 0}, {7, 1}, {-3, 1}, {-1 << 63}, {1<<63 - 1, 1}, {1, 5}, {2, 6}} {
		qfac.Lift(ints("1 0 1"), g, []int{3, 1}, 5, 3)
		qfac.Lift(ints("1 0 1"), []int{3, 1}, g, 5, 3)
		qfac.Lift(ints("1 0 1"), g, g, 5, 3)
	}
}
