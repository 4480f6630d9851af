package qpoly_test

import (
	"math"
	"math/big"
	"slices"
	"testing"

	"quadratrix/api"
	"quadratrix/num"
	"quadratrix/qpoly"
	"quadratrix/rat"
)

// P3.1
func TestIs(t *testing.T) {
	for _, p := range broken() {
		if qpoly.Is(p) {
			t.Error(p)
		}
	}
	for _, p := range append(some(), []api.Rat{}, []api.Rat{{N: api.Int{Abs: []uint32{}}, D: num.Of(1)}, read("-1/2")}) {
		if !qpoly.Is(p) {
			t.Error(show(p))
		}
	}
}

// P3.1
func TestDegLeadConst(t *testing.T) {
	for _, x := range []struct {
		p    string
		deg  int
		lead string
	}{{"", -1, "0"}, {"5", 0, "5"}, {"0 0 1", 2, "1"}, {"1 -2/3", 1, "-2/3"}} {
		if d := qpoly.Deg(poly(x.p)); d != x.deg {
			t.Error(x, d)
		}
		if a := qpoly.Lead(poly(x.p)); !sameRat(a, read(x.lead)) {
			t.Error(x, a)
		}
	}
	if qpoly.Deg([]api.Rat{}) != -1 || !sameRat(qpoly.Lead([]api.Rat{}), read("0")) {
		t.Error("an empty list")
	}
	for _, s := range []string{"1", "-7/3", "100000000000000000000"} {
		if p := qpoly.Const(read(s)); !same(p, poly(s)) {
			t.Error(s, p)
		}
	}
	if p := qpoly.Const(read("0")); len(p) != 0 {
		t.Error(p)
	}
}

// P3.2
func TestComputes(t *testing.T) {
	pairs(func(p, q []api.Rat) {
		a, b := toBig(p), toBig(q)
		expect(t, "Add", qpoly.Add(p, q), a.plus(b), p, q)
		expect(t, "Sub", qpoly.Sub(p, q), a.minus(b), p, q)
		expect(t, "Mul", qpoly.Mul(p, q), a.times(b), p, q)
	})
	for _, x := range dense() {
		expect(t, "Mul", qpoly.Mul(x[0], x[1]), toBig(x[0]).times(toBig(x[1])), x[0], x[1])
	}
	for _, p := range some() {
		for _, c := range []string{"0", "1", "-1", "3", "-2/5", "4294967296/3"} {
			expect(t, "Scale by "+c, qpoly.Scale(p, read(c)), toBig(p).scale(bigRat(read(c))), p)
		}
	}
}

// P3.2: what cancels at the end of the list is cut off.
func TestExamplesOfSums(t *testing.T) {
	for _, x := range []struct {
		got  []api.Rat
		want string
	}{
		{qpoly.Mul(poly("1 1"), poly("-1 1")), "-1 0 1"},
		{qpoly.Scale(poly("1 1"), read("0")), ""},
		{qpoly.Add(poly("1 2 3"), poly("1 -2 -3")), "2"},
		{qpoly.Add(poly("1 2"), poly("-1 -2")), ""},
		{qpoly.Sub(poly("1 1"), poly("0 1")), "1"},
		{qpoly.Sub(poly("0 1"), poly("0 1 1")), "0 0 -1"},
		{qpoly.Mul(poly("1/2 3"), nil), ""},
		{qpoly.Mul(poly("2/3"), poly("3/2")), "1"},
	} {
		if !same(x.got, poly(x.want)) {
			t.Error(show(x.got), x.want)
		}
	}
}

// P3.2
func TestPow(t *testing.T) {
	for _, p := range some() {
		want := bigPoly{big.NewRat(1, 1)}
		for n := range 6 {
			got, e := qpoly.Pow(p, n)
			expect(t, "Pow", got, want, p)
			if e != api.OK {
				t.Error(show(p), n, e)
			}
			want = want.times(toBig(p))
		}
	}
	if got := pow(t, poly("1 1"), 3); !same(got, poly("1 3 3 1")) {
		t.Error(show(got))
	}
	if got := pow(t, poly("1/2 0 -3/4"), 9); !same(got, toBig(got).list()) || !sameRat(got[18], read("-19683/262144")) || !sameRat(got[0], read("1/512")) {
		t.Error(show(got))
	}
}

// P3.2: the limit is that of the number of terms times the exponent, and there is none for the numbers.
func TestPowLimits(t *testing.T) {
	long := api.Rat{N: api.Int{Abs: append(make([]uint32, 12), 1)}, D: num.Of(1)} // 2^384
	for _, x := range []struct {
		p    []api.Rat
		n    int
		want api.Errno
	}{
		{poly("0 1"), -1, api.ErrArg}, {nil, -1, api.ErrArg}, {poly("1"), math.MinInt, api.ErrArg}, {poly("1 2 3"), math.MinInt, api.ErrArg},
		{poly("0 1"), 2000, api.OK}, {poly("0 1"), 2001, api.ErrLimit}, {poly("1 -2"), math.MaxInt, api.ErrLimit},
		{poly("3"), 4000, api.OK}, {poly("3"), 4001, api.ErrLimit}, {poly("1"), 4001, api.ErrLimit}, {poly("1"), math.MaxInt, api.ErrLimit},
		{poly("0 0 1"), 1333, api.OK}, {poly("0 0 1"), 1334, api.ErrLimit},
		{nil, 4001, api.OK}, {nil, math.MaxInt, api.OK},
		{[]api.Rat{long}, 4000, api.OK},
		{append(zeros(3999), read("2")), 1, api.OK}, {append(zeros(4000), read("2")), 1, api.ErrLimit}, {append(zeros(4000), read("2")), 0, api.OK},
	} {
		p, e := qpoly.Pow(x.p, x.n)
		if e != x.want || e != api.OK && len(p) != 0 {
			t.Error(len(x.p), x.n, e)
		}
		if e == api.OK && len(x.p) > 0 && qpoly.Deg(p) != x.n*qpoly.Deg(x.p) {
			t.Error(len(x.p), x.n, qpoly.Deg(p))
		}
	}
	p := pow(t, poly("1 1"), 2000)
	if sum := qpoly.Eval(p, read("1")); num.Bits(sum.N) != 2001 || !sameRat(p[1], read("2000")) || !sameRat(p[1998], read("1999000")) {
		t.Error(sum)
	}
	if p := pow(t, []api.Rat{long}, 4000); num.Bits(p[0].N) != 384*4000+1 {
		t.Error(num.Bits(p[0].N))
	}
}

func zeros(n int) []api.Rat {
	return slices.Repeat(poly("0"), n)
}

// P3.5
func TestEval(t *testing.T) {
	if a := qpoly.Eval(poly("1 0 1"), read("1/2")); !sameRat(a, read("5/4")) {
		t.Error(a)
	}
	w := &dice{state: 7}
	numbers := []api.Rat{read("0"), read("1"), read("-1"), read("2"), read("-3/2"), read("1/6"), fromRat(w.number(4)), fromRat(w.number(5))}
	for _, p := range some() {
		for _, x := range numbers {
			if a := qpoly.Eval(p, x); !sameRat(a, fromRat(toBig(p).eval(bigRat(x)))) {
				t.Error(show(p), rat.Print(x), rat.Print(a))
			}
		}
	}
	// Denominators that are cancelled in part, or wholly.
	for _, p := range polys("0 0 4; 1 2 4; 5 6 36; 0 0 0 0 16; 1/2 1 0 8; 3 0 0 8 16") {
		for _, x := range polys("1/2 -3/2 1/4 1/6 5/36 7/12") {
			for _, a := range x {
				if got := qpoly.Eval(p, a); !sameRat(got, fromRat(toBig(p).eval(bigRat(a)))) {
					t.Error(show(p), rat.Print(a), rat.Print(got))
				}
			}
		}
	}
}

// P3.5
func TestCompose(t *testing.T) {
	if p, e := qpoly.Compose(poly("1 0 1"), poly("-1 1")); !same(p, poly("2 -2 1")) || e != api.OK {
		t.Error(p, e)
	}
	list := some()
	for _, p := range list[:30] {
		for _, q := range list[:34] {
			got, e := qpoly.Compose(p, q)
			expect(t, "Compose", got, toBig(p).compose(toBig(q)), p, q)
			if e != api.OK {
				t.Error(show(p, q), e)
			}
		}
	}
}

// P3.5: the limit is that of the product of the degrees, if both are above 0.
func TestComposeLimits(t *testing.T) {
	power := func(n int) []api.Rat { return append(zeros(n), read("-2")) }
	for _, x := range []struct {
		p, q []api.Rat
		deg  int
		want api.Errno
	}{
		{power(2000), power(2), 4000, api.OK}, {power(2), power(2000), 4000, api.OK}, {power(4000), power(1), 4000, api.OK}, {power(1), power(4000), 4000, api.OK},
		{power(2001), power(2), -1, api.ErrLimit}, {power(4001), power(1), -1, api.ErrLimit}, {power(1), power(4001), -1, api.ErrLimit}, {power(61), power(66), -1, api.ErrLimit},
		{power(63), power(63), 3969, api.OK},
		{power(4001), poly("1"), 0, api.OK}, {power(4001), nil, -1, api.OK}, {poly("7"), power(4001), 0, api.OK}, {nil, power(4001), -1, api.OK}, {nil, nil, -1, api.OK},
	} {
		p, e := qpoly.Compose(x.p, x.q)
		if e != x.want || qpoly.Deg(p) != x.deg {
			t.Error(len(x.p), len(x.q), len(p), e)
		}
	}
}

// P3.5
func TestCalculus(t *testing.T) {
	for _, p := range some() {
		expect(t, "Deriv", qpoly.Deriv(p), toBig(p).deriv(), p)
		s := qpoly.Integral(p)
		if !qpoly.Is(s) || len(p) > 0 && (len(s) != len(p)+1 || rat.Sign(s[0]) != 0) || len(p) == 0 && len(s) > 0 {
			t.Error("Integral", show(p, s))
		}
		expect(t, "Integral", toBig(s).deriv().list(), toBig(p), p)
	}
	for _, x := range [][3]string{{"0 -1 0 1", "-1 0 3", "0 0 -1/2 0 1/4"}, {"0 1", "1", "0 0 1/2"}, {"5", "", "0 5"}, {"", "", ""}} {
		if p, q := qpoly.Deriv(poly(x[0])), qpoly.Integral(poly(x[0])); !same(p, poly(x[1])) || !same(q, poly(x[2])) {
			t.Error(x, show(p, q))
		}
	}
}

// P3.8
func TestPrimitive(t *testing.T) {
	for _, p := range some() {
		c, n, e := qpoly.Primitive(p)
		if len(p) == 0 {
			if !isNothing(c) || len(n) != 0 || e != api.ErrZero {
				t.Error(c, n, e)
			}
			continue
		}
		g := api.Int{}
		var back bigPoly
		for _, a := range n {
			g = num.Gcd(g, a)
			back = append(back, new(big.Rat).Mul(bigRat(c), bigRat(rat.Whole(a))))
		}
		if !sameInt(g, num.Of(1)) || num.Sign(n[len(n)-1]) <= 0 || !rat.Is(c) || !same(back.list(), p) || e != api.OK {
			t.Error(show(p), c, n, e)
		}
	}
	for _, x := range [][3]string{{"1/3 -1/2", "-1/6", "-2 3"}, {"-7/2", "-7/2", "1"}, {"4 6", "2", "2 3"}, {"1 0 2", "1", "1 0 2"}, {"0 0 -1", "-1", "0 0 1"}} {
		c, n, e := qpoly.Primitive(poly(x[0]))
		var got []api.Rat
		for _, a := range n {
			got = append(got, rat.Whole(a))
		}
		if !sameRat(c, read(x[1])) || !same(got, poly(x[2])) || e != api.OK {
			t.Error(x, c, n, e)
		}
	}
}

// P3.10
func TestRing(t *testing.T) {
	one := poly("1")
	triples(func(p, q, r []api.Rat) {
		for _, law := range []struct {
			name string
			l, r []api.Rat
		}{
			{"p + q = q + p", qpoly.Add(p, q), qpoly.Add(q, p)},
			{"(p + q) + r = p + (q + r)", qpoly.Add(qpoly.Add(p, q), r), qpoly.Add(p, qpoly.Add(q, r))},
			{"p q = q p", qpoly.Mul(p, q), qpoly.Mul(q, p)},
			{"(p q) r = p (q r)", qpoly.Mul(qpoly.Mul(p, q), r), qpoly.Mul(p, qpoly.Mul(q, r))},
			{"p (q + r) = p q + p r", qpoly.Mul(p, qpoly.Add(q, r)), qpoly.Add(qpoly.Mul(p, q), qpoly.Mul(p, r))},
			{"p + 0 = p", qpoly.Add(p, nil), p},
			{"1 p = p", qpoly.Mul(one, p), p},
			{"(p + q) - q = p", qpoly.Sub(qpoly.Add(p, q), q), p},
			{"p p p = p^3", qpoly.Mul(p, qpoly.Mul(p, p)), pow(t, p, 3)},
		} {
			if !same(law.l, law.r) {
				t.Errorf("%s for %s", law.name, show(p, q, r))
			}
		}
		if len(p) > 0 && len(q) > 0 && qpoly.Deg(qpoly.Mul(p, q)) != qpoly.Deg(p)+qpoly.Deg(q) {
			t.Error("degree", show(p, q))
		}
	})
}

// P3.10
func TestValues(t *testing.T) {
	w := &dice{state: 8}
	triples(func(p, q, _ []api.Rat) {
		x := fromRat(w.number(2))
		a, b := qpoly.Eval(p, x), qpoly.Eval(q, x)
		if !sameRat(qpoly.Eval(qpoly.Add(p, q), x), rat.Add(a, b)) || !sameRat(qpoly.Eval(qpoly.Mul(p, q), x), rat.Mul(a, b)) {
			t.Error(show(p, q), rat.Print(x))
		}
		if c, e := qpoly.Compose(p, q); !sameRat(qpoly.Eval(c, x), qpoly.Eval(p, b)) || e != api.OK {
			t.Error(show(p, q), rat.Print(x), e)
		}
	})
}

// P3.12
func TestLawsOfCalculus(t *testing.T) {
	triples(func(p, q, _ []api.Rat) {
		product := qpoly.Add(qpoly.Mul(qpoly.Deriv(p), q), qpoly.Mul(p, qpoly.Deriv(q)))
		if got := qpoly.Deriv(qpoly.Mul(p, q)); !same(got, product) {
			t.Error("product", show(p, q))
		}
		chain, e := qpoly.Compose(p, q)
		ok(t, e)
		outer, e := qpoly.Compose(qpoly.Deriv(p), q)
		ok(t, e)
		if got := qpoly.Deriv(chain); !same(got, qpoly.Mul(outer, qpoly.Deriv(q))) {
			t.Error("chain", show(p, q))
		}
		if got := qpoly.Deriv(qpoly.Integral(p)); !same(got, p) {
			t.Error("integral", show(p))
		}
	})
}

// all calls every function but Is, and returns what they return.
func all(p, q []api.Rat, x api.Rat) [][]api.Rat {
	out := [][]api.Rat{{qpoly.Lead(p)}, qpoly.Const(x), qpoly.Add(p, q), qpoly.Sub(p, q), qpoly.Mul(p, q), qpoly.Scale(p, x), qpoly.Monic(p), qpoly.Gcd(p, q), {qpoly.Eval(p, x)}, qpoly.Deriv(p), qpoly.Integral(p), {qpoly.Resultant(p, q)}}
	qpoly.Deg(p)
	for _, n := range []int{0, 1, 3, -1} {
		power, _ := qpoly.Pow(p, n)
		out = append(out, power)
	}
	quo, rem, _ := qpoly.Div(p, q)
	g, u, v, _ := qpoly.Bezout(p, q)
	chain, _ := qpoly.Compose(p, q)
	c, l, _ := qpoly.Squarefree(p)
	d, n, _ := qpoly.Primitive(p)
	roots, _ := qpoly.Roots(p)
	out = append(append(out, quo, rem, g, u, v, chain, []api.Rat{c, d}, roots), l...)
	for _, a := range n {
		out = append(out, []api.Rat{rat.Whole(a)})
	}
	return out
}

// The section Terms: of lists that are not canonical nothing is promised but that the functions return.
func TestBrokenLists(t *testing.T) {
	list := append(broken(), polys("; 1; -1/2 3; 4 0 4 1/3")...)
	numbers := []api.Rat{read("0"), read("2/3"), {}, {N: num.Of(2), D: num.Of(2)}, {N: num.Of(1), D: num.Of(0)}, {N: api.Int{Neg: true}, D: num.Of(1)}}
	for _, p := range list {
		for _, q := range list {
			for _, x := range numbers {
				all(p, q, x)
			}
		}
	}
}

// G6 and G7: arguments stay as they are, also in the memory behind them, and the results of a second call are those of the first one.
func TestArgumentsStay(t *testing.T) {
	roomy := func(p []api.Rat) []api.Rat { return append(toBig(p).list(), poly("7 7 7 7 7 7 7")...) }
	pairs(func(p, q []api.Rat) {
		if len(p) > 8 || len(q) > 6 {
			return
		}
		p0, q0, x := roomy(p), roomy(q), read("-2/3")
		p1, q1 := slices.Clone(p0), slices.Clone(q0)
		first := all(p0[:len(p)], q0[:len(q)], x)
		second := all(p0[:len(p)], q0[:len(q)], x)
		if !same(p0, p1) || !same(q0, q1) || !same(p0[:len(p)], p) || !sameRat(x, read("-2/3")) {
			t.Fatal("changed", show(p, q))
		}
		if !sameList(first, second) {
			t.Error(show(p, q))
		}
	})
}
