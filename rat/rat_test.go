package rat_test

import (
	"math"
	"math/big"
	"slices"
	"testing"

	"quadratrix/api"
	"quadratrix/num"
	"quadratrix/rat"
)

// P2.1
func TestIs(t *testing.T) {
	for _, a := range broken() {
		if rat.Is(a) {
			t.Error(a)
		}
	}
	for _, a := range append(some(), quo(0, 1), quo(-1, 2), api.Rat{N: api.Int{Abs: []uint32{}}, D: num.Of(1)}) {
		if !rat.Is(a) {
			t.Error(a)
		}
	}
}

// P2.1
func TestOf(t *testing.T) {
	for _, x := range [][2]int{{6, -4}, {-6, -4}, {0, 5}, {0, -5}, {7, 1}, {7, -1}, {12, 18}, {math.MinInt, -1}, {math.MinInt, math.MinInt}, {1, math.MinInt}, {math.MinInt, 6}, {math.MaxInt, math.MinInt}, {math.MaxInt, math.MaxInt}} {
		a, e := rat.Of(x[0], x[1])
		expect(t, "Of", a, new(big.Rat).SetFrac(big.NewInt(int64(x[0])), big.NewInt(int64(x[1]))))
		if e != api.OK {
			t.Error(x, e)
		}
	}
	if a, e := rat.Of(6, -4); !same(a, quo(-3, 2)) || e != api.OK {
		t.Error(a, e)
	}
	for _, n := range []int{0, 1, -1, math.MinInt} {
		if a, e := rat.Of(n, 0); !isNothing(a) || e != api.ErrZero {
			t.Error(n, a, e)
		}
	}
}

// P2.1
func TestMake(t *testing.T) {
	w := &dice{state: 4}
	for i := range 500 {
		n, d, g := w.whole(i%7), w.whole(5), w.whole(3)
		n.Mul(n, g)
		d.Mul(d, g)
		a, e := rat.Make(fromBigInt(n), fromBigInt(d))
		if d.Sign() == 0 {
			if !isNothing(a) || e != api.ErrZero {
				t.Error(n, d, a, e)
			}
			continue
		}
		expect(t, "Make", a, new(big.Rat).SetFrac(n, d))
		if e != api.OK {
			t.Error(n, d, e)
		}
	}
	for _, bad := range []api.Int{{Neg: true}, {Abs: []uint32{0}}, {Abs: []uint32{5, 0}}, {Neg: true, Abs: []uint32{0}}} {
		for _, other := range []api.Int{num.Of(0), num.Of(1), num.Of(-6), bad} {
			if a, e := rat.Make(bad, other); !isNothing(a) || e != api.ErrForm {
				t.Error(bad, other, a, e)
			}
			if a, e := rat.Make(other, bad); !isNothing(a) || e != api.ErrForm {
				t.Error(other, bad, a, e)
			}
		}
	}
}

// P2.1
func TestWhole(t *testing.T) {
	for _, n := range []int{0, 1, -1, 6, math.MinInt, math.MaxInt} {
		if a := rat.Whole(num.Of(n)); !same(a, quo(n, 1)) {
			t.Error(n, a)
		}
	}
}

// P2.2
func TestSignAndNeg(t *testing.T) {
	for _, a := range some() {
		if s := rat.Sign(a); s != bigRat(a).Sign() {
			t.Error("Sign", a, s)
		}
		expect(t, "Neg", rat.Neg(a), new(big.Rat).Neg(bigRat(a)), a)
	}
}

// P2.2
func TestComputes(t *testing.T) {
	pairs(func(a, b api.Rat) {
		x, y := bigRat(a), bigRat(b)
		expect(t, "Add", rat.Add(a, b), new(big.Rat).Add(x, y), a, b)
		expect(t, "Sub", rat.Sub(a, b), new(big.Rat).Sub(x, y), a, b)
		expect(t, "Mul", rat.Mul(a, b), new(big.Rat).Mul(x, y), a, b)
		if c := rat.Cmp(a, b); c != x.Cmp(y) {
			t.Error("Cmp", a, b, c)
		}
		q, e := rat.Div(a, b)
		if y.Sign() == 0 {
			if !isNothing(q) || e != api.ErrZero {
				t.Error("Div", a, b, q, e)
			}
			return
		}
		expect(t, "Div", q, new(big.Rat).Quo(x, y), a, b)
		if e != api.OK {
			t.Error("Div", a, b, e)
		}
	})
}

// P2.2
func TestExamples(t *testing.T) {
	for _, x := range []struct{ got, want api.Rat }{
		{rat.Sub(quo(1, 3), quo(1, 2)), quo(-1, 6)},
		{rat.Add(quo(1, 6), quo(1, 10)), quo(4, 15)},
		{rat.Add(quo(-1, 6), quo(1, 6)), quo(0, 1)},
		{rat.Mul(quo(-2, 3), quo(9, 4)), quo(-3, 2)},
		{rat.Mul(quo(0, 1), quo(9, 4)), quo(0, 1)},
	} {
		if !same(x.got, x.want) {
			t.Error(x.got, x.want)
		}
	}
	if q, e := rat.Div(quo(1, 2), quo(-1, 4)); !same(q, quo(-2, 1)) || e != api.OK {
		t.Error(q, e)
	}
	if rat.Cmp(quo(1, 3), quo(33, 100)) != 1 || rat.Cmp(quo(-1, 2), quo(-1, 3)) != -1 || rat.Cmp(quo(2, 1), quo(2, 1)) != 0 {
		t.Error("Cmp")
	}
}

// P2.3
func TestPow(t *testing.T) {
	for _, a := range some() {
		x, p := bigRat(a), big.NewRat(1, 1)
		for n := range 12 {
			got, e := rat.Pow(a, n)
			expect(t, "Pow", got, p, a)
			if e != api.OK {
				t.Error(a, n, e)
			}
			if x.Sign() != 0 {
				got, e = rat.Pow(a, -n)
				expect(t, "Pow", got, new(big.Rat).Inv(p), a)
			} else if n > 0 {
				if got, e = rat.Pow(a, -n); !isNothing(got) || e != api.ErrZero {
					t.Error(a, -n, got, e)
				}
			}
			p.Mul(p, x)
		}
	}
	for _, x := range []struct {
		a    api.Rat
		n    int
		want api.Rat
	}{
		{quo(-2, 3), -3, quo(-27, 8)},
		{quo(0, 1), 0, quo(1, 1)},
		{quo(0, 1), math.MaxInt, quo(0, 1)},
		{quo(1, 1), math.MaxInt, quo(1, 1)},
		{quo(1, 1), math.MinInt, quo(1, 1)},
		{quo(-1, 1), math.MaxInt, quo(-1, 1)},
		{quo(-1, 1), -math.MaxInt, quo(-1, 1)},
		{quo(-1, 1), math.MinInt, quo(1, 1)},
	} {
		if a, e := rat.Pow(x.a, x.n); !same(a, x.want) || e != api.OK {
			t.Error(x.a, x.n, a, e)
		}
	}
	for _, n := range []int{-1, -2, -math.MaxInt, math.MinInt} {
		if a, e := rat.Pow(quo(0, 1), n); !isNothing(a) || e != api.ErrZero {
			t.Error(n, a, e)
		}
	}
}

// P2.3: the limit counts the bits of the longer part, whatever the sign of the exponent.
func TestPowLimits(t *testing.T) {
	long := api.Int{Abs: make([]uint32, api.MaxBits/32+1)} // an integer of one bit more than the limit
	long.Abs[len(long.Abs)-1] = 1
	for _, x := range []struct {
		a    api.Rat
		n    int
		want api.Errno
	}{
		{quo(2, 1), 524288, api.OK},
		{quo(2, 1), -524288, api.OK},
		{quo(2, 1), 524289, api.ErrLimit},
		{quo(2, 1), -524289, api.ErrLimit},
		{quo(2, 1), -1048576, api.ErrLimit},
		{quo(-1, 2), 524288, api.OK},
		{quo(-1, 2), 524289, api.ErrLimit},
		{quo(1, 4), 349525, api.OK},
		{quo(1, 4), -349525, api.OK},
		{quo(1, 4), 349526, api.ErrLimit},
		{quo(-5, 3), 349526, api.ErrLimit},
		{quo(-5, 3), -349526, api.ErrLimit},
		{quo(2, 1), math.MaxInt, api.ErrLimit},
		{quo(2, 1), math.MinInt, api.ErrLimit},
		{quo(-1, 2), math.MinInt, api.ErrLimit},
		{api.Rat{N: long, D: num.Of(1)}, 1, api.ErrLimit},
		{api.Rat{N: num.Of(1), D: long}, -1, api.ErrLimit},
	} {
		p, e := rat.Pow(x.a, x.n)
		if e != x.want || e != api.OK && !isNothing(p) || e == api.OK && !rat.Is(p) {
			t.Error(num.Bits(x.a.N), num.Bits(x.a.D), x.n, e)
		}
	}
	if p, e := rat.Pow(api.Rat{N: long, D: num.Of(1)}, 0); !same(p, quo(1, 1)) || e != api.OK {
		t.Error(e)
	}
}

// P2.3
func TestFloor(t *testing.T) {
	for _, a := range some() {
		want := new(big.Int).Div(bigInt(a.N), bigInt(a.D)) // rounded down, as the denominator is above 0
		if n := rat.Floor(a); !sameInt(n, fromBigInt(want)) {
			t.Error(a, n)
		}
	}
	for _, x := range []struct {
		a    api.Rat
		want int
	}{{quo(-7, 2), -4}, {quo(7, 2), 3}, {quo(4, 1), 4}, {quo(-4, 1), -4}, {quo(0, 1), 0}, {quo(-1, 9), -1}, {quo(1, 9), 0}} {
		if n := rat.Floor(x.a); !sameInt(n, num.Of(x.want)) {
			t.Error(x, n)
		}
	}
}

// P2.4
func TestCommon(t *testing.T) {
	n, d, e := rat.Common([]api.Rat{quo(1, 6), quo(-3, 4), quo(2, 1)})
	if len(n) != 3 || !sameInt(n[0], num.Of(2)) || !sameInt(n[1], num.Of(-9)) || !sameInt(n[2], num.Of(24)) || !sameInt(d, num.Of(12)) || e != api.OK {
		t.Error(n, d, e)
	}
	for _, l := range [][]api.Rat{nil, {}} {
		if n, d, e := rat.Common(l); len(n) != 0 || !sameInt(d, num.Of(1)) || e != api.OK {
			t.Error(n, d, e)
		}
	}
	for l := range lists() {
		n, d, e := rat.Common(l)
		want := big.NewInt(1)
		for _, a := range l {
			den := bigInt(a.D)
			gcd := new(big.Int).GCD(nil, nil, want, den)
			want.Mul(want, den.Quo(den, gcd))
		}
		if !sameInt(d, fromBigInt(want)) || len(n) != len(l) || e != api.OK {
			t.Fatal(texts(l), n, d, e)
		}
		for i, a := range l {
			product := new(big.Rat).Mul(bigRat(a), new(big.Rat).SetInt(want))
			if !product.IsInt() || !sameInt(n[i], fromBigInt(product.Num())) {
				t.Error(texts(l), i, n[i])
			}
		}
	}
}

// lists yields lists of numbers of many lengths, of zeros and of whole numbers among them.
func lists() func(yield func([]api.Rat) bool) {
	return func(yield func([]api.Rat) bool) {
		w := &dice{state: 5}
		for i := range 200 {
			var l []api.Rat
			for range i % 17 {
				l = append(l, w.number(w.below(4)))
			}
			if !yield(l) {
				return
			}
		}
		for _, l := range [][]api.Rat{{quo(0, 1)}, {quo(5, 1), quo(0, 1), quo(-3, 1)}, {quo(1, 7)}, {quo(1, 7), quo(1, 7), quo(3, 7)}, some()} {
			if !yield(l) {
				return
			}
		}
	}
}

// P2.7
func TestField(t *testing.T) {
	zero, one := quo(0, 1), quo(1, 1)
	triples(func(a, b, c api.Rat) {
		for _, law := range []struct {
			name string
			l, r api.Rat
		}{
			{"a + b = b + a", rat.Add(a, b), rat.Add(b, a)},
			{"(a + b) + c = a + (b + c)", rat.Add(rat.Add(a, b), c), rat.Add(a, rat.Add(b, c))},
			{"a b = b a", rat.Mul(a, b), rat.Mul(b, a)},
			{"(a b) c = a (b c)", rat.Mul(rat.Mul(a, b), c), rat.Mul(a, rat.Mul(b, c))},
			{"a (b + c) = a b + a c", rat.Mul(a, rat.Add(b, c)), rat.Add(rat.Mul(a, b), rat.Mul(a, c))},
			{"a + 0 = a", rat.Add(a, zero), a},
			{"1 a = a", rat.Mul(one, a), a},
			{"0 a = 0", rat.Mul(zero, a), zero},
			{"(a + b) - b = a", rat.Sub(rat.Add(a, b), b), a},
			{"a - a = 0", rat.Sub(a, a), zero},
			{"-a = 0 - a", rat.Neg(a), rat.Sub(zero, a)},
		} {
			if !same(law.l, law.r) {
				t.Errorf("%s for %v", law.name, texts([]api.Rat{a, b, c}))
			}
		}
		if rat.Sign(b) != 0 {
			if q, e := rat.Div(rat.Mul(a, b), b); !same(q, a) || e != api.OK {
				t.Error("a b / b = a", texts([]api.Rat{a, b}), e)
			}
		}
	})
}

// P2.7
func TestOrder(t *testing.T) {
	half := quo(1, 2)
	triples(func(a, b, c api.Rat) {
		order := rat.Cmp(a, b)
		if order != rat.Sign(rat.Sub(a, b)) || order != -rat.Cmp(b, a) || (order == 0) != same(a, b) {
			t.Error("Cmp", a, b, order)
		}
		if rat.Cmp(rat.Add(a, c), rat.Add(b, c)) != order {
			t.Error("a sum", a, b, c)
		}
		if rat.Sign(c) > 0 && rat.Cmp(rat.Mul(a, c), rat.Mul(b, c)) != order {
			t.Error("a product", a, b, c)
		}
		if order <= 0 && rat.Cmp(b, c) <= 0 && rat.Cmp(a, c) > 0 {
			t.Error("not transitive", a, b, c)
		}
		mean := rat.Mul(half, rat.Add(a, b))
		if rat.Cmp(a, mean) != order || rat.Cmp(mean, b) != order {
			t.Error("mean", a, b, mean)
		}
	})
}

// P2.8
func TestPowers(t *testing.T) {
	w := &dice{state: 6}
	power := func(a api.Rat, n int) api.Rat {
		p, e := rat.Pow(a, n)
		if e != api.OK {
			t.Fatal(a, n, e)
		}
		return p
	}
	for range 300 {
		a, m, n := w.number(3), w.below(21)-10, w.below(21)-10
		if rat.Sign(a) == 0 {
			m, n = max(m, -m), max(n, -n)
		}
		if l, r := rat.Mul(power(a, m), power(a, n)), power(a, m+n); !same(l, r) {
			t.Error("a^m a^n", a, m, n)
		}
		if l, r := power(power(a, m), n), power(a, m*n); !same(l, r) {
			t.Error("(a^m)^n", a, m, n)
		}
	}
}

// P2.9
func TestIntegerParts(t *testing.T) {
	triples(func(a, b, c api.Rat) {
		for _, x := range []api.Rat{a, b, c, rat.Mul(a, b)} {
			n := rat.Whole(rat.Floor(x))
			if rat.Cmp(n, x) > 0 || rat.Cmp(rat.Add(n, quo(1, 1)), x) <= 0 {
				t.Error(x, n)
			}
		}
	})
	for l := range lists() {
		n, d, e := rat.Common(l)
		g := d
		for i, a := range l {
			if back, e := rat.Make(n[i], d); !same(back, a) || e != api.OK {
				t.Error(texts(l), i, back, e)
			}
			g = num.Gcd(g, n[i])
		}
		if !sameInt(g, num.Of(1)) || e != api.OK {
			t.Error(texts(l), d, g, e)
		}
	}
}

// The section Terms: for numbers that are not canonical all functions return.
func TestBrokenNumbers(t *testing.T) {
	var values []api.Rat
	values = append(values, broken()...)
	values = append(values, quo(0, 1), quo(1, 1), quo(-5, 3), quo(1<<40, 7))
	for _, a := range values {
		rat.Sign(a)
		rat.Neg(a)
		rat.Floor(a)
		rat.Print(a)
		rat.Whole(a.N)
		rat.Make(a.N, a.D)
		for _, n := range []int{0, 1, -1, 3, -3, math.MaxInt, math.MinInt} {
			rat.Pow(a, n)
		}
		for _, b := range values {
			rat.Cmp(a, b)
			rat.Add(a, b)
			rat.Sub(a, b)
			rat.Mul(a, b)
			rat.Div(a, b)
			rat.Simplest(a, b)
			rat.Common([]api.Rat{a, b})
		}
	}
}

// G6 and G7: arguments stay as they are, and the results of a second call are those of the first one.
func TestArgumentsStay(t *testing.T) {
	all := func(a, b api.Rat) []api.Rat {
		made, _ := rat.Make(a.N, b.N)
		q, _ := rat.Div(a, b)
		p, _ := rat.Pow(a, -3)
		n, d, _ := rat.Common([]api.Rat{a, b})
		s, _ := rat.Simplest(a, b)
		read, _ := rat.Parse(rat.Print(a))
		return []api.Rat{made, rat.Whole(a.N), rat.Neg(a), rat.Add(a, b), rat.Sub(a, b), rat.Mul(a, b), q, p, rat.Whole(rat.Floor(a)), {N: n[0], D: n[1]}, rat.Whole(d), s, read}
	}
	clone := func(a api.Rat) api.Rat {
		return api.Rat{N: api.Int{Neg: a.N.Neg, Abs: slices.Clone(a.N.Abs)}, D: api.Int{Neg: a.D.Neg, Abs: slices.Clone(a.D.Abs)}}
	}
	pairs(func(a, b api.Rat) {
		x, y := clone(a), clone(b)
		first := all(a, b)
		second := all(a, b)
		if !same(a, x) || !same(b, y) {
			t.Fatal("changed", x, y)
		}
		if !slices.EqualFunc(first, second, same) {
			t.Error(a, b, first, second)
		}
	})
}
