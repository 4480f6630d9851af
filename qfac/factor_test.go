package qfac_test

import (
	"math/big"
	"slices"
	"testing"

	"quadratrix/api"
	"quadratrix/num"
	"quadratrix/qfac"
	"quadratrix/qpoly"
	"quadratrix/rat"
)

// P4.4
func TestBound(t *testing.T) {
	for _, x := range []struct{ p, want string }{
		{"1 0 1", "8"}, {"1", "2"}, {"-1", "2"}, {"3", "4"}, {"0 1", "4"}, {"3 -4", "12"}, {"3 -4 1", "24"}, {"1 1 1 1", "24"}, {"0 0 0 -7", "64"}, {"-1000000000000000000000 1", "2000000000000000000002"}, {"2 2 -2 2 1", "80"},
	} {
		if n, e := qfac.Bound(ints(x.p)); !same(n, ints(x.want)[0]) || e != api.OK {
			t.Error(x, num.Print(n), e)
		}
	}
	for _, p := range [][]api.Int{nil, {}} {
		if n, e := qfac.Bound(p); !same(n, api.Int{}) || e != api.ErrZero {
			t.Error(n, e)
		}
	}
	w := &chance{5}
	for i := range 300 {
		p := numbers(w.poly(i%90, 1+10*(i%13)))
		squares := new(big.Int)
		for _, a := range bigs(p) {
			squares.Add(squares, new(big.Int).Mul(a, a))
		}
		want := new(big.Int).Sqrt(squares)
		want.Add(want, big.NewInt(1)).Lsh(want, uint(len(p)-1))
		if n, e := qfac.Bound(p); !num.Is(n) || toBig(n).Cmp(want) != 0 || e != api.OK {
			t.Error(p, n, e)
		}
	}
}

// P4.4: 2^d is longer than the greatest power of package num.
func TestBoundLong(t *testing.T) {
	for _, d := range []int{31, 32, 33, 64, 524288, 524289, 700000, 1100000} {
		p := make([]api.Int, d+1)
		p[0], p[d] = num.Of(-3), num.Of(4)
		n, e := qfac.Bound(p)
		want := new(big.Int).Lsh(big.NewInt(6), uint(d))
		if toBig(n).Cmp(want) != 0 || !num.Is(n) || e != api.OK {
			t.Error(d, num.Bits(n), e)
		}
	}
}

// P4.9: of polynomials with small coefficients that have divisors with great ones, and of others.
func TestBoundOfDivisors(t *testing.T) {
	w := &chance{6}
	list := [][2][]api.Rat{
		{power(wholes(1, 1), 15), power(wholes(-1, 1), 16)}, {power(wholes(1, 1, 1), 9), power(wholes(-1, 1), 10)}, {wholes(5), wholes(-3)}, {wholes(0, 0, 7), wholes(1)}, {wholes(-1), wholes(9, 9, 9)},
	}
	for n := 1; n <= 60; n++ {
		list = append(list, [2][]api.Rat{cyclotomic(n), wholes(1)})
		for k := range n {
			if k > 0 && n%k == 0 {
				list = append(list, [2][]api.Rat{cyclotomic(n), cyclotomic(k)})
			}
		}
	}
	for i := range 300 {
		list = append(list, [2][]api.Rat{w.poly(w.below(20), 1+i/6), w.poly(w.below(20), 1+w.below(50))})
	}
	for _, x := range list {
		n, e := qfac.Bound(numbers(product(x[0], x[1])))
		for _, a := range slices.Concat(numbers(x[0]), numbers(x[1])) {
			if num.Cmp(num.Abs(a), n) > 0 || e != api.OK {
				t.Error(show(t, x[0]), show(t, x[1]), num.Print(n), e)
			}
		}
	}
}

// cyclotomic returns the polynomial whose roots are the roots of unity of the order n, which is irreducible: x^n - 1 without those of lesser orders.
func cyclotomic(n int) []api.Rat {
	out := append(slices.Repeat(wholes(0), n), wholes(1)...)
	out[0] = wholes(-1)[0]
	for k := 1; k < n; k++ {
		if n%k == 0 {
			out, _, _ = qpoly.Div(out, cyclotomic(k))
		}
	}
	return out
}

// P4.5
func TestFactor(t *testing.T) {
	for _, x := range []struct{ p, want string }{
		{"-2 0 0 0 2", "2 (-1 1) (1 1) (1 0 1)"}, {"4 0 0 0 1", "1 (2 -2 1) (2 2 1)"}, {"1 -1 1/4", "1/4 (-2 1)^2"}, {"-3", "-3"}, {"5/7", "5/7"}, {"1", "1"}, {"1 0 -10 0 1", "1 (1 0 -10 0 1)"}, {"0 0 0 5", "5 (0 1)^3"}, {"1 5 6", "6 (1/3 1) (1/2 1)"},
		{"0 1", "1 (0 1)"}, {"3 -2", "-2 (-3/2 1)"}, {"0 0 1 1", "1 (0 1)^2 (1 1)"}, {"1 0 0 0 1", "1 (1 0 0 0 1)"}, {"-1/4 0 1", "1 (-1/2 1) (1/2 1)"}, {"-2 0 1", "1 (-2 0 1)"}, {"-1/3 0 2/3", "2/3 (-1/2 0 1)"},
		{"-1 0 0 1", "1 (-1 1) (1 1 1)"}, {"-1 0 0 0 0 0 1", "1 (-1 1) (1 1) (1 -1 1) (1 1 1)"}, {"2 3 1", "1 (1 1) (2 1)"}, {"4 12 13 6 1", "1 (1 1)^2 (2 1)^2"}, {"-4 0 3 0 1", "1 (-1 1) (1 1) (4 0 1)"}, {"4 0 5 0 1", "1 (1 0 1) (4 0 1)"}, {"2 2 3 2 1", "1 (1 0 1) (2 2 1)"},
	} {
		if got := factored(t, rats(x.p)); got != x.want {
			t.Error(x, got)
		}
	}
	for _, p := range [][]api.Rat{nil, {}} {
		if c, l, e := qfac.Factor(p); len(l) != 0 || !same(c.N, api.Int{}) || !same(c.D, api.Int{}) || e != api.ErrZero {
			t.Error(c, l, e)
		}
	}
}

// P4.6
func TestIrreducible(t *testing.T) {
	for _, x := range []struct {
		p    string
		want bool
	}{
		{"1 0 0 0 1", true}, {"5", false}, {"-1/2", false}, {"1", false}, {"4 0 0 0 1", false}, {"0 2", true}, {"0 1", true}, {"3 -2/5", true}, {"1 2 1", false}, {"0 0 1", false}, {"0 1 1", false}, {"1 0 1", true}, {"-1 0 1", false}, {"-2/9 0 1", true}, {"-4/9 0 1", false}, {"1 0 2 0 1", false}, {"1 0 -10 0 1", true},
	} {
		expectIrreducible(t, rats(x.p), x.want)
	}
	if is, e := qfac.Irreducible(nil); is || e != api.ErrZero {
		t.Error(is, e)
	}
}

// P4.5, P4.6: the limits are those of the degree and of the primitive polynomial.
func TestLimits(t *testing.T) {
	top := shift(4000)
	for _, x := range []struct {
		p    []api.Rat
		want string
		e    api.Errno
	}{
		{append(slices.Repeat(wholes(0), 60), wholes(7)...), "7 (0 1)^60", api.OK}, {append(slices.Repeat(wholes(0), 61), wholes(7)...), "", api.ErrLimit}, {slices.Repeat(wholes(1), 62), "", api.ErrLimit}, {slices.Repeat(wholes(1), 900), "", api.ErrLimit},
		{[]api.Rat{top}, rat.Print(top), api.OK}, {qpoly.Scale(wholes(-1, 0, 1), top), rat.Print(top) + " (-1 1) (1 1)", api.OK}, {qpoly.Scale(wholes(-1, 0, 1), shift(9000)), rat.Print(shift(9000)) + " (-1 1) (1 1)", api.OK},
		{[]api.Rat{top, wholes(1)[0]}, "", api.ErrLimit}, {[]api.Rat{wholes(1)[0], top}, "", api.ErrLimit}, {[]api.Rat{wholes(1)[0], rat.Neg(top), wholes(1)[0]}, "", api.ErrLimit}, {[]api.Rat{wholes(1)[0], inverse(top)}, "", api.ErrLimit},
		{[]api.Rat{shift(3999), wholes(1)[0]}, "1 (" + rat.Print(shift(3999)) + " 1)", api.OK}, {[]api.Rat{wholes(1)[0], shift(3999)}, rat.Print(shift(3999)) + " (" + rat.Print(inverse(shift(3999))) + " 1)", api.OK},
		{[]api.Rat{rat.Neg(shift(3998)), wholes(0)[0], wholes(1)[0]}, "1 (" + rat.Print(rat.Neg(shift(1999))) + " 1) (" + rat.Print(shift(1999)) + " 1)", api.OK},
		{append(append([]api.Rat{top}, slices.Repeat(wholes(0), 60)...), wholes(1)...), "", api.ErrLimit},
	} {
		c, l, e := qfac.Factor(x.p)
		is, e2 := qfac.Irreducible(x.p)
		if e != x.e || e2 != x.e {
			t.Error(len(x.p), e, e2, x.e)
		}
		if e != api.OK && (len(l) != 0 || !same(c.N, api.Int{}) || !same(c.D, api.Int{}) || is) {
			t.Error(c, l, is)
		}
		if e == api.OK && factored(t, x.p) != x.want {
			t.Error(factored(t, x.p), x.want)
		}
	}
}

func inverse(a api.Rat) api.Rat {
	out, _ := rat.Div(wholes(1)[0], a)
	return out
}

// P4.5, P4.6: all polynomials up to the degree 4 with small coefficients, of which all divisors with integer coefficients are tried that these can have.
func TestAllSmall(t *testing.T) {
	for n := range 5 * 5 * 5 * 5 * 5 {
		p := []int{}
		for k := n; len(p) < 5; k /= 5 {
			p = append(p, k%5-2)
		}
		for len(p) > 0 && p[len(p)-1] == 0 {
			p = p[:len(p)-1]
		}
		if len(p) == 0 {
			continue
		}
		var list [][]api.Rat
		for _, f := range byTrial(p) {
			list = append(list, wholes(f...))
		}
		last := big.NewRat(int64(p[len(p)-1]), 1)
		for _, f := range byTrial(p) {
			last.Quo(last, big.NewRat(int64(f[len(f)-1]), 1))
		}
		expect(t, last.RatString(), list...)
	}
}

// byTrial returns the irreducible factors, of degrees above 0, of a polynomial with a degree up to 4: a divisor of a degree up to 2 has coefficients up to 4 times the length of the list of coefficients.
func byTrial(p []int) [][]int {
	squares := 0
	for _, a := range p {
		squares += a * a
	}
	most := 0
	for most*most < 16*squares {
		most++
	}
	lead := max(p[len(p)-1], -p[len(p)-1])
	for a := 1; a <= lead; a++ {
		for b := -most; b <= most && len(p) > 2; b++ {
			if q, ok := exactly(p, []int{b, a}); ok {
				return append(byTrial(q), []int{b, a})
			}
		}
	}
	for a := 1; a <= lead; a++ {
		for b := -most; b <= most && len(p) > 4; b++ {
			for c := -most; c <= most; c++ {
				if q, ok := exactly(p, []int{c, b, a}); ok {
					return append(byTrial(q), []int{c, b, a})
				}
			}
		}
	}
	if len(p) == 1 {
		return nil
	}
	return [][]int{p}
}

// exactly returns p / q, and whether it is a polynomial with integer coefficients.
func exactly(p, q []int) ([]int, bool) {
	rest := slices.Clone(p)
	n := len(q) - 1
	quo := make([]int, len(p)-n)
	for k := len(quo) - 1; k >= 0; k-- {
		quo[k] = rest[k+n] / q[n]
		for i, a := range q {
			rest[k+i] -= quo[k] * a
		}
		if rest[k+n] != 0 {
			return nil, false
		}
	}
	return quo, !slices.ContainsFunc(rest, func(a int) bool { return a != 0 })
}
