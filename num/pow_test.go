package num_test

import (
	"math"
	"math/big"
	"testing"

	"quadratrix/api"
	"quadratrix/num"
)

// P1.5
func TestPow(t *testing.T) {
	for _, a := range some() {
		for n := range 12 {
			p, e := num.Pow(a, n)
			expect(t, "Pow", p, new(big.Int).Exp(toBig(a), big.NewInt(int64(n)), nil), a)
			if e != api.OK {
				t.Error(a, n, e)
			}
		}
	}
	for _, x := range [][3]int64{{-3, 3, -27}, {0, 0, 1}, {0, 5, 0}, {-1, math.MaxInt64, -1}, {-1, math.MaxInt64 - 1, 1}, {1, math.MaxInt64, 1}, {0, math.MaxInt64, 0}} {
		if p, e := num.Pow(whole(x[0]), int(x[1])); !same(p, whole(x[2])) || e != api.OK {
			t.Error(x, p, e)
		}
	}
}

// P1.5
func TestPowLimits(t *testing.T) {
	long := func(k int) api.Int { // an integer of k bits
		a := api.Int{Abs: make([]uint32, (k+31)/32)}
		a.Abs[len(a.Abs)-1] = 1 << ((k - 1) % 32)
		return a
	}
	for _, x := range []struct {
		a    api.Int
		n    int
		want api.Errno
	}{
		{whole(2), -1, api.ErrArg},
		{whole(0), math.MinInt, api.ErrArg},
		{long(api.MaxBits + 1), -1, api.ErrArg},
		{whole(2), 1048576, api.ErrLimit},
		{whole(2), 524288, api.OK},
		{whole(-2), 524289, api.ErrLimit},
		{whole(2), math.MaxInt, api.ErrLimit},
		{whole(-2), math.MaxInt/2 + 2, api.ErrLimit},
		{whole(4), 349525, api.OK},
		{whole(4), 349526, api.ErrLimit},
		{long(api.MaxBits), 1, api.OK},
		{long(api.MaxBits + 1), 1, api.ErrLimit},
		{long(api.MaxBits + 1), 0, api.OK},
		{long(api.MaxBits/2 + 1), 2, api.ErrLimit},
	} {
		p, e := num.Pow(x.a, x.n)
		if e != x.want || e != api.OK && !zero(p) {
			t.Error(num.Bits(x.a), x.n, num.Bits(p), e)
		}
	}
	if p := power(t, whole(2), 524288); num.Bits(p) != 524289 {
		t.Error(num.Bits(p))
	}
}

// P1.5
func TestSqrt(t *testing.T) {
	for n, want := range map[int64]int64{0: 0, 1: 1, 2: 1, 3: 1, 4: 2, 8: 2, 9: 3, 99: 9, 100: 10} {
		if r, e := num.Sqrt(whole(n)); !same(r, whole(want)) || e != api.OK {
			t.Error(n, r, e)
		}
	}
	for _, a := range some() {
		r, e := num.Sqrt(a)
		if num.Sign(a) < 0 {
			if !zero(r) || e != api.ErrArg {
				t.Error(a, r, e)
			}
			continue
		}
		expect(t, "Sqrt", r, new(big.Int).Sqrt(toBig(a)), a)
		if e != api.OK {
			t.Error(a, e)
		}
	}
}

// P1.10
func TestPowers(t *testing.T) {
	w := &words{state: 5}
	for range 300 {
		a, m, n := w.number(w.below(5)), w.below(20), w.below(20)
		if l, r := num.Mul(power(t, a, m), power(t, a, n)), power(t, a, m+n); !same(l, r) {
			t.Error(a, m, n, l, r)
		}
	}
	if l, r := num.Mul(power(t, whole(-7), 100001), power(t, whole(-7), 60000)), power(t, whole(-7), 160001); !same(l, r) {
		t.Error("long powers")
	}
}

// P1.10: squares and the integers beside them, where the root changes.
func TestRoots(t *testing.T) {
	check := func(a api.Int) {
		r, e := num.Sqrt(a)
		next := num.Add(r, whole(1))
		if e != api.OK || r.Neg || num.Cmp(num.Mul(r, r), a) > 0 || num.Cmp(num.Mul(next, next), a) <= 0 {
			t.Error(a, r, e)
		}
	}
	for n := range int64(3000) {
		check(whole(n))
	}
	w := &words{state: 6}
	for i := range 600 {
		a := num.Abs(w.number(1 + i%12))
		square := num.Mul(a, a)
		check(a)
		check(square)
		check(num.Sub(square, whole(1)))
		check(num.Add(square, num.Mul(whole(2), a)))
	}
	check(num.Abs(w.number(2000)))
}
