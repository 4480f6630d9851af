package qfac_test

import (
	"cmp"
	"math/big"
	"slices"
	"testing"

	"quadratrix/api"
	"quadratrix/num"
	"quadratrix/qfac"
)

// primeNumbers returns the prime numbers up to api.MaxPrime.
func primeNumbers() []int {
	var out []int
	for n := range api.MaxPrime + 1 {
		if big.NewInt(int64(n)).ProbablyPrime(0) {
			out = append(out, n)
		}
	}
	return out
}

// notPrimes are numbers modulo which nothing is computed, prime numbers that are too great among them.
var notPrimes = []int{-1 << 63, -7, -2, -1, 0, 1, 4, 6, 9, 15, 25, 49, 91, 121, 961, 999, 1000, 1001, 1009, 1 << 31, 1<<61 - 1, 1<<63 - 1}

// P4.1
func TestReduce(t *testing.T) {
	for _, x := range []struct {
		p    string
		m    int
		want []int
	}{
		{"14 -3 7", 7, []int{0, 4}}, {"", 2, nil}, {"5 10 -15", 5, nil}, {"1", 2, []int{1}}, {"-1 0 0 -1", 2, []int{1, 0, 0, 1}}, {"-1 -2 -3 -4", 3, []int{2, 1, 0, 2}},
		{"996 997 998 -1", 997, []int{996, 0, 1, 996}}, {"100000000000000000000000000000 1 97", 97, []int{57, 1}}, {"-100000000000000000000000000000", 97, []int{40}},
	} {
		if l, e := qfac.Reduce(ints(x.p), x.m); !slices.Equal(l, x.want) || e != api.OK {
			t.Error(x, l, e)
		}
	}
	for _, m := range notPrimes {
		if l, e := qfac.Reduce(ints("1 2"), m); len(l) != 0 || e != api.ErrArg {
			t.Error(m, l, e)
		}
	}
}

// P4.1: all prime numbers, and long numbers.
func TestReduceLong(t *testing.T) {
	w := &chance{1}
	for _, m := range primeNumbers() {
		p := numbers(w.poly(8, 300))
		p = append(p, num.Of(m), num.Of(-3*m))
		l, e := qfac.Reduce(p, m)
		var want []int
		for _, a := range p {
			r := new(big.Int).Mod(toBig(a), big.NewInt(int64(m)))
			want = append(want, int(r.Int64()))
		}
		for len(want) > 0 && want[len(want)-1] == 0 {
			want = want[:len(want)-1]
		}
		if !slices.Equal(l, want) || e != api.OK {
			t.Error(m, l, want, e)
		}
	}
}

// timesMod returns a product modulo m.
func timesMod(p, q []int, m int) []int {
	out := make([]int, max(0, len(p)+len(q)-1))
	for i, a := range p {
		for j, b := range q {
			out[i+j] = (out[i+j] + a*b) % m
		}
	}
	return out
}

// orderMod is the order of polynomials modulo a prime number.
func orderMod(p, q []int) int {
	for i := len(p) - 1; i >= 0 && len(p) == len(q); i-- {
		if p[i] != q[i] {
			return cmp.Compare(p[i], q[i])
		}
	}
	return cmp.Compare(len(p), len(q))
}

// counted returns the polynomial modulo m whose coefficients are the digits of n, to the base m.
func counted(n, m int) []int {
	var out []int
	for ; n > 0; n /= m {
		out = append(out, n%m)
	}
	return out
}

// key returns the number whose digits to the base m are the coefficients.
func key(p []int, m int) int {
	out := 0
	for _, a := range slices.Backward(p) {
		out = out*m + a
	}
	return out
}

// sieve returns, by their keys, the factors of all monic polynomials modulo m up to a degree: those that are no multiples of ones with lesser degrees are irreducible.
func sieve(m, degree int) map[int][][]int {
	var all [][]int
	for n := m; len(counted(n, m)) <= degree+1; n++ {
		if p := counted(n, m); p[len(p)-1] == 1 {
			all = append(all, p)
		}
	}
	out := map[int][][]int{1: nil}
	split := map[int][2][]int{}
	for _, p := range all {
		if pair, ok := split[key(p, m)]; ok {
			out[key(p, m)] = append(slices.Clone(out[key(pair[1], m)]), pair[0])
			continue
		}
		out[key(p, m)] = [][]int{p}
		for _, q := range all {
			if len(p)+len(q)-2 <= degree {
				split[key(timesMod(p, q, m), m)] = [2][]int{p, q}
			}
		}
	}
	return out
}

// P4.2: by its definition, all polynomials of small degrees modulo small prime numbers.
func TestFactorModAll(t *testing.T) {
	for _, x := range []struct{ m, degree int }{{2, 9}, {3, 6}, {5, 4}, {7, 3}, {11, 2}, {31, 2}} {
		for n, factors := range sieve(x.m, x.degree) {
			if n == 1 {
				continue
			}
			for c := 1; c < x.m; c = 2*c + 1 {
				expectMod(t, timesMod(counted(n, x.m), []int{c}, x.m), x.m, factors)
			}
		}
	}
}

// expectMod checks that the factors of p are want, in any order, or that there is ErrNone if one comes twice.
func expectMod(t *testing.T, p []int, m int, want [][]int) {
	t.Helper()
	before := slices.Clone(p)
	l, e := qfac.FactorMod(p, m)
	if !slices.Equal(p, before) {
		t.Error("argument changed:", before, p)
	}
	want = slices.Clone(want)
	slices.SortFunc(want, orderMod)
	if len(slices.CompactFunc(slices.Clone(want), slices.Equal)) < len(want) {
		if len(l) != 0 || e != api.ErrNone {
			t.Fatal(p, m, l, e, "not ErrNone", want)
		}
		return
	}
	if !slices.EqualFunc(l, want, slices.Equal) || e != api.OK {
		t.Fatal(p, m, l, e, "not", want)
	}
}

// P4.2
func TestFactorMod(t *testing.T) {
	for _, x := range []struct {
		p    []int
		m    int
		want [][]int
	}{
		{[]int{1, 0, 1}, 5, [][]int{{2, 1}, {3, 1}}}, {[]int{1, 0, 1}, 3, [][]int{{1, 0, 1}}}, {[]int{2, 0, 2}, 5, [][]int{{2, 1}, {3, 1}}},
		{[]int{0, 1}, 2, [][]int{{0, 1}}}, {[]int{0, 3}, 5, [][]int{{0, 1}}}, {[]int{4, 3}, 5, [][]int{{3, 1}}}, {[]int{1, 996}, 997, [][]int{{996, 1}}},
		{[]int{1, 0, 0, 0, 1}, 17, [][]int{{2, 1}, {8, 1}, {9, 1}, {15, 1}}}, {[]int{1, 0, 0, 0, 1}, 7, [][]int{{1, 3, 1}, {1, 4, 1}}},
		{[]int{0, 1, 1}, 2, [][]int{{0, 1}, {1, 1}}}, {[]int{1, 0, 0, 0, 0, 0, 0, 1}, 2, [][]int{{1, 1}, {1, 1, 0, 1}, {1, 0, 1, 1}}},
	} {
		expectMod(t, x.p, x.m, x.want)
	}
	for _, x := range []struct {
		p []int
		m int
	}{
		{[]int{1, 0, 1}, 2}, {[]int{0, 0, 1}, 3}, {[]int{1, 0, 0, 2}, 3}, {[]int{1, 2, 1}, 997}, {append(make([]int, 60), 1), 5}, {[]int{0, 0, 1, 1}, 2}, {[]int{1, 1, 1, 1}, 2}, {[]int{1, 1, 1}, 3},
	} {
		if l, e := qfac.FactorMod(x.p, x.m); len(l) != 0 || e != api.ErrNone {
			t.Error(x, l, e)
		}
	}
}

// P4.2: what is no polynomial modulo a prime number, or of no degree from 1 to api.MaxDegree.
func TestFactorModArguments(t *testing.T) {
	long := append(make([]int, 60), 1)
	long[0], long[1] = 1, 1
	if _, e := qfac.FactorMod(long, 2); e != api.OK {
		t.Error(e)
	}
	for _, x := range []struct {
		p []int
		m int
	}{
		{nil, 5}, {[]int{}, 2}, {[]int{3}, 5}, {[]int{1}, 2}, {[]int{0}, 5}, {[]int{1, 0}, 5}, {[]int{1, 1, 0}, 5}, {[]int{0, 0, 0}, 5}, {[]int{7, 1}, 5}, {[]int{5, 1}, 5}, {[]int{1, 5}, 5}, {[]int{-1, 1}, 5}, {[]int{1, -4}, 5},
		{[]int{-1 << 63, 1}, 3}, {[]int{1<<63 - 1, 1}, 3}, {[]int{1, 0, 2, 1}, 2}, {append([]int{1}, long...), 2}, {append(make([]int, 61), 1), 3}, {append(make([]int, 500), 1), 997}, {append(slices.Clone(long), 0), 2},
	} {
		if l, e := qfac.FactorMod(x.p, x.m); len(l) != 0 || e != api.ErrArg {
			t.Error(x, l, e)
		}
	}
	for _, m := range notPrimes {
		if l, e := qfac.FactorMod([]int{0, 1}, m); len(l) != 0 || e != api.ErrArg {
			t.Error(m, l, e)
		}
	}
}

// P4.2: all prime numbers have a polynomial with all numbers from 0 on as roots, as long as it is, and quadratic polynomials that are irreducible exactly if Euler's criterion says so.
func TestFactorModLinear(t *testing.T) {
	for _, m := range primeNumbers() {
		p := []int{m - 1}
		var want [][]int
		for a := range min(m, api.MaxDegree) {
			p = timesMod(p, []int{(m - a) % m, 1}, m)
			want = append(want, []int{(m - a) % m, 1})
		}
		expectMod(t, p, m, want)
		for a := 1; a < min(m, 12) && m > 2; a++ {
			var roots [][]int
			for x := 1; x < m; x++ {
				if x*x%m == a {
					roots = append(roots, []int{x, 1})
				}
			}
			if roots == nil {
				roots = [][]int{{m - a, 0, 1}}
			}
			expectMod(t, []int{m - a, 0, 1}, m, roots)
		}
	}
}

// P4.2: modulo m the roots of x^n - 1, m not dividing n, are of the degree k with the least m^k - 1 that their order divides.
func TestFactorModUnity(t *testing.T) {
	for _, m := range []int{2, 3, 5, 7, 13, 59, 101, 997} {
		for n := 1; n <= api.MaxDegree; n++ {
			p := append(make([]int, n), 1)
			p[0] = m - 1
			l, e := qfac.FactorMod(p, m)
			if n%m == 0 {
				if len(l) != 0 || e != api.ErrNone {
					t.Error(n, m, l, e)
				}
				continue
			}
			var degrees []int
			for i := range n {
				k, power := 1, i*m%n
				for ; power != i; k++ {
					power = power * m % n
				}
				degrees = append(degrees, k)
			}
			slices.Sort(degrees)
			for _, q := range l {
				d := len(q) - 1
				if len(degrees) < d || degrees[0] != d || degrees[d-1] != d {
					t.Fatal(n, m, l, degrees)
				}
				degrees = degrees[d:]
			}
			if product := productMod(l, m); len(degrees) != 0 || !slices.Equal(product, p) || !slices.IsSortedFunc(l, orderMod) || e != api.OK {
				t.Error(n, m, l, e)
			}
		}
	}
}

func productMod(list [][]int, m int) []int {
	out := []int{1}
	for _, p := range list {
		out = timesMod(out, p, m)
	}
	return out
}

// P4.7
func TestModularFactors(t *testing.T) {
	w := &chance{2}
	for i := range 600 {
		list := primeNumbers()
		m := list[w.below(len(list))]
		if i%2 == 0 {
			m = list[w.below(6)]
		}
		p, q := w.modulo(1+w.below(30), m), w.modulo(1+w.below(30), m)
		l, e := qfac.FactorMod(timesMod(p, q, m), m)
		if e == api.ErrNone {
			continue
		}
		a, e1 := qfac.FactorMod(p, m)
		b, e2 := qfac.FactorMod(q, m)
		both := slices.Concat(a, b)
		slices.SortFunc(both, orderMod)
		if !slices.EqualFunc(l, both, slices.Equal) || e != api.OK || e1 != api.OK || e2 != api.OK {
			t.Error(p, q, m, l, both, e, e1, e2)
		}
		for _, f := range l {
			expectMod(t, f, m, [][]int{f})
		}
		whole := timesMod(productMod(l, m), []int{p[len(p)-1] * q[len(q)-1] % m}, m)
		if !slices.Equal(whole, timesMod(p, q, m)) {
			t.Error(p, q, m, l)
		}
	}
}
