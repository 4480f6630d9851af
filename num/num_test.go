package num_test

import (
	"math"
	"math/big"
	"slices"
	"testing"

	"quadratrix/api"
	"quadratrix/num"
)

// P1.1
func TestIs(t *testing.T) {
	for _, a := range invalid() {
		if num.Is(a) {
			t.Error(a)
		}
	}
	for _, a := range append(some(), api.Int{}, api.Int{Abs: []uint32{}}) {
		if !num.Is(a) {
			t.Error(a)
		}
	}
}

// P1.1
func TestOf(t *testing.T) {
	for _, n := range []int{0, 1, -1, 7, 1<<32 - 1, 1 << 32, -1 << 32, 1<<63 - 1, -1<<63 + 1, -1 << 63} {
		expect(t, "Of", num.Of(n), big.NewInt(int64(n)))
	}
	if a := num.Of(-4294967297); !same(a, api.Int{Neg: true, Abs: []uint32{1, 1}}) {
		t.Error(a)
	}
}

// P1.1
func TestSmall(t *testing.T) {
	for _, a := range some() {
		n, e := num.Small(a)
		want := toBig(a)
		if !want.IsInt64() {
			if n != 0 || e != api.ErrLimit {
				t.Error(a, n, e)
			}
		} else if int64(n) != want.Int64() || e != api.OK {
			t.Error(a, n, e)
		}
	}
	for _, n := range []int{math.MinInt, math.MinInt + 1, -1, 0, 1, math.MaxInt} {
		if m, e := num.Small(whole(int64(n))); m != n || e != api.OK {
			t.Error(n, m, e)
		}
	}
	if n, e := num.Small(api.Int{Abs: []uint32{0, 1 << 31}}); n != 0 || e != api.ErrLimit {
		t.Error(n, e)
	}
	if n, e := num.Small(api.Int{Neg: true, Abs: []uint32{1, 1 << 31}}); n != 0 || e != api.ErrLimit {
		t.Error(n, e)
	}
}

// P1.1
func TestBitsAndSign(t *testing.T) {
	for _, a := range some() {
		if k := num.Bits(a); k != toBig(a).BitLen() {
			t.Error("Bits", a, k)
		}
		if s := num.Sign(a); s != toBig(a).Sign() {
			t.Error("Sign", a, s)
		}
	}
	if num.Bits(whole(0)) != 0 || num.Bits(whole(1)) != 1 || num.Bits(whole(-256)) != 9 {
		t.Error("Bits")
	}
}

// P1.1
func TestCmp(t *testing.T) {
	pairs(func(a, b api.Int) {
		if c := num.Cmp(a, b); c != toBig(a).Cmp(toBig(b)) {
			t.Error(a, b, c)
		}
	})
}

// P1.2
func TestNegAndAbs(t *testing.T) {
	for _, a := range some() {
		expect(t, "Neg", num.Neg(a), new(big.Int).Neg(toBig(a)), a)
		expect(t, "Abs", num.Abs(a), new(big.Int).Abs(toBig(a)), a)
	}
}

// P1.2
func TestSumsAndProducts(t *testing.T) {
	pairs(func(a, b api.Int) {
		x, y := toBig(a), toBig(b)
		expect(t, "Add", num.Add(a, b), new(big.Int).Add(x, y), a, b)
		expect(t, "Sub", num.Sub(a, b), new(big.Int).Sub(x, y), a, b)
		expect(t, "Mul", num.Mul(a, b), new(big.Int).Mul(x, y), a, b)
	})
	if a := num.Add(whole(4294967295), whole(1)); !same(a, api.Int{Abs: []uint32{0, 1}}) {
		t.Error(a)
	}
}

// P1.7
func TestRing(t *testing.T) {
	zero, one := whole(0), whole(1)
	triples(func(a, b, c api.Int) {
		for _, law := range []struct {
			name string
			l, r api.Int
		}{
			{"a + b = b + a", num.Add(a, b), num.Add(b, a)},
			{"(a + b) + c = a + (b + c)", num.Add(num.Add(a, b), c), num.Add(a, num.Add(b, c))},
			{"a b = b a", num.Mul(a, b), num.Mul(b, a)},
			{"(a b) c = a (b c)", num.Mul(num.Mul(a, b), c), num.Mul(a, num.Mul(b, c))},
			{"a (b + c) = a b + a c", num.Mul(a, num.Add(b, c)), num.Add(num.Mul(a, b), num.Mul(a, c))},
			{"a + 0 = a", num.Add(a, zero), a},
			{"1 a = a", num.Mul(one, a), a},
			{"0 a = 0", num.Mul(zero, a), zero},
			{"(a + b) - b = a", num.Sub(num.Add(a, b), b), a},
			{"a - a = 0", num.Sub(a, a), zero},
			{"-a = 0 - a", num.Neg(a), num.Sub(zero, a)},
		} {
			if !same(law.l, law.r) {
				t.Errorf("%s for %v, %v, %v: %v, %v", law.name, a, b, c, law.l, law.r)
			}
		}
	})
}

// P1.7
func TestOrder(t *testing.T) {
	triples(func(a, b, c api.Int) {
		order := num.Cmp(a, b)
		if order != num.Sign(num.Sub(a, b)) || order != -num.Cmp(b, a) || (order == 0) != same(a, b) {
			t.Error("Cmp", a, b, order)
		}
		if num.Cmp(num.Add(a, c), num.Add(b, c)) != order {
			t.Error("a sum", a, b, c)
		}
		if num.Sign(c) > 0 && num.Cmp(num.Mul(a, c), num.Mul(b, c)) != order {
			t.Error("a product", a, b, c)
		}
		if order <= 0 && num.Cmp(b, c) <= 0 && num.Cmp(a, c) > 0 {
			t.Error("not transitive", a, b, c)
		}
	})
}

// The section Errors: ErrForm comes ahead of all other errors, and functions without an error return zero.
func TestNotCanonical(t *testing.T) {
	good := []api.Int{whole(0), whole(-3), whole(1 << 40)}
	for _, bad := range invalid() {
		checkAlone(t, bad)
		for _, a := range append(good, invalid()...) {
			checkPair(t, bad, a)
			checkPair(t, a, bad)
		}
	}
}

func zero(list ...api.Int) bool {
	return !slices.ContainsFunc(list, func(a api.Int) bool { return a.Neg || len(a.Abs) > 0 })
}

func checkAlone(t *testing.T, bad api.Int) {
	if num.Bits(bad) != 0 || num.Sign(bad) != 0 || num.Print(bad) != "" || !zero(num.Neg(bad), num.Abs(bad)) {
		t.Error("no error", bad)
	}
	if n, e := num.Small(bad); n != 0 || e != api.ErrForm {
		t.Error("Small", bad, n, e)
	}
	for _, n := range []int{-1, 0, 1, 3, math.MaxInt, math.MinInt} {
		if p, e := num.Pow(bad, n); !zero(p) || e != api.ErrForm {
			t.Error("Pow", bad, n, p, e)
		}
	}
	if r, e := num.Sqrt(bad); !zero(r) || e != api.ErrForm {
		t.Error("Sqrt", bad, r, e)
	}
}

func checkPair(t *testing.T, a, b api.Int) {
	if num.Cmp(a, b) != 0 || !zero(num.Add(a, b), num.Sub(a, b), num.Mul(a, b), num.Gcd(a, b)) {
		t.Error("no error", a, b)
	}
	if q, r, e := num.Div(a, b); !zero(q, r) || e != api.ErrForm {
		t.Error("Div", a, b, q, r, e)
	}
	if g, u, v, e := num.Bezout(a, b); !zero(g, u, v) || e != api.ErrForm {
		t.Error("Bezout", a, b, g, u, v, e)
	}
}

// G6 and G7: arguments stay as they are, and the results of a second call are those of the first one.
func TestArgumentsStay(t *testing.T) {
	all := func(a, b api.Int) []api.Int {
		q, r, _ := num.Div(a, b)
		g, u, v, _ := num.Bezout(a, b)
		p, _ := num.Pow(a, 3)
		s, _ := num.Sqrt(num.Abs(a))
		n, _ := num.Parse(num.Print(a))
		return []api.Int{num.Neg(a), num.Abs(a), num.Add(a, b), num.Sub(a, b), num.Mul(a, b), q, r, p, num.Gcd(a, b), g, u, v, s, n}
	}
	clone := func(a api.Int) api.Int { return api.Int{Neg: a.Neg, Abs: slices.Clone(a.Abs)} }
	w := &words{state: 4}
	for i := range 400 {
		a, b := w.number(i%60), w.number(w.below(9))
		x, y := clone(a), clone(b)
		first := all(a, b)
		if !same(a, x) || !same(b, y) {
			t.Fatal("changed", x, y)
		}
		second := all(a, b)
		if !slices.EqualFunc(first, second, same) {
			t.Error(a, b, first, second)
		}
	}
}
