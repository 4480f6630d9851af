package qfac_test

import (
	"fmt"
	"math/big"
	"slices"
	"strings"
	"testing"

	"quadratrix/api"
	"quadratrix/num"
	"quadratrix/qfac"
	"quadratrix/qpoly"
	"quadratrix/rat"
)

// rats returns the polynomial of a text: the coefficients, the lowest one first.
func rats(text string) []api.Rat {
	var out []api.Rat
	for _, s := range strings.Fields(text) {
		a, e := rat.Parse(s)
		if e != api.OK {
			panic(text)
		}
		out = append(out, a)
	}
	return out
}

// wholes returns the polynomial with these coefficients.
func wholes(p ...int) []api.Rat {
	var out []api.Rat
	for _, a := range p {
		out = append(out, rat.Whole(num.Of(a)))
	}
	return out
}

func numbers(p []api.Rat) []api.Int {
	var out []api.Int
	for _, a := range p {
		out = append(out, a.N)
	}
	return out
}

// ints returns the polynomial with integer coefficients of a text.
func ints(text string) []api.Int {
	return numbers(rats(text))
}

// show returns the text of a polynomial, and fails the test if it is not canonical.
func show(t *testing.T, p []api.Rat) string {
	t.Helper()
	if !qpoly.Is(p) {
		t.Error("not canonical:", p)
	}
	var out []string
	for _, a := range p {
		out = append(out, rat.Print(a))
	}
	return strings.Join(out, " ")
}

// power returns a polynomial to the power n.
func power(p []api.Rat, n int) []api.Rat {
	out, e := qpoly.Pow(p, n)
	if e != api.OK {
		panic(e)
	}
	return out
}

func product(list ...[]api.Rat) []api.Rat {
	out := wholes(1)
	for _, p := range list {
		out = qpoly.Mul(out, p)
	}
	return out
}

// term returns c x^n.
func term(c api.Rat, n int) []api.Rat {
	return append(slices.Repeat(wholes(0), n), c)
}

// spread returns p with x^n in the place of x.
func spread(p []api.Rat, n int) []api.Rat {
	return compose(p, term(rat.Whole(num.Of(1)), n))
}

func compose(p, q []api.Rat) []api.Rat {
	out, e := qpoly.Compose(p, q)
	if e != api.OK {
		panic(e)
	}
	return out
}

// shift returns 2^n.
func shift(n int) api.Rat {
	return fromBig(new(big.Int).Lsh(big.NewInt(1), uint(n)))
}

func toBig(a api.Int) *big.Int {
	out := new(big.Int)
	for _, w := range slices.Backward(a.Abs) {
		out.Lsh(out, 32).Or(out, big.NewInt(int64(w)))
	}
	if a.Neg {
		out.Neg(out)
	}
	return out
}

func fromBig(n *big.Int) api.Rat {
	a, e := rat.Parse(n.String())
	if e != api.OK {
		panic(e)
	}
	return a
}

// smallPrimes returns the product of all prime numbers below n.
func smallPrimes(n int) api.Rat {
	out := big.NewInt(1)
	for i := range int64(n) {
		if p := big.NewInt(i); p.ProbablyPrime(0) {
			out.Mul(out, p)
		}
	}
	return fromBig(out)
}

// factored returns the text of what Factor returns, and fails the test if this is no canonical list in the right order whose product is p: the leading coefficient, and each factor in brackets, with its exponent if this is above 1.
func factored(t *testing.T, p []api.Rat) string {
	t.Helper()
	c, l, e := qfac.Factor(p)
	if e != api.OK {
		t.Fatal(show(t, p), e)
	}
	out := rat.Print(c)
	again := qpoly.Const(c)
	for i, f := range l {
		out += " (" + show(t, f.P) + ")"
		if f.K != 1 {
			out += fmt.Sprint("^", f.K)
		}
		again = qpoly.Mul(again, power(f.P, f.K))
		if qpoly.Deg(f.P) < 1 || rat.Print(qpoly.Lead(f.P)) != "1" || f.K < 1 || i > 0 && !before(l[i-1].P, f.P) {
			t.Error(show(t, p), i, out)
		}
	}
	if show(t, again) != show(t, p) {
		t.Error(show(t, p), "is not", out)
	}
	return out
}

// before reports whether p comes ahead of q in the order of polynomials.
func before(p, q []api.Rat) bool {
	if len(p) != len(q) {
		return len(p) < len(q)
	}
	d := qpoly.Sub(q, p)
	return rat.Sign(qpoly.Lead(d)) > 0
}

// expect checks that a number and irreducible factors, each as often as it is there, are what Factor finds of their product. The factors need not be monic.
func expect(t *testing.T, c string, factors ...[]api.Rat) {
	t.Helper()
	p := qpoly.Scale(product(factors...), rats(c)[0])
	var list [][]api.Rat
	for _, f := range factors {
		list = append(list, qpoly.Monic(f))
	}
	slices.SortFunc(list, func(p, q []api.Rat) int {
		switch {
		case before(p, q):
			return -1
		case before(q, p):
			return 1
		}
		return 0
	})
	want := rat.Print(qpoly.Lead(p))
	for i := 0; i < len(list); {
		k := i
		for i < len(list) && show(t, list[i]) == show(t, list[k]) {
			i++
		}
		want += " (" + show(t, list[k]) + ")"
		if i-k > 1 {
			want += fmt.Sprint("^", i-k)
		}
	}
	if got := factored(t, p); got != want {
		t.Errorf("the factors of %s are %s, want %s", show(t, p), got, want)
	}
}

// expectIrreducible checks what Irreducible, and Factor, say of p.
func expectIrreducible(t *testing.T, p []api.Rat, want bool) {
	t.Helper()
	if got, e := qfac.Irreducible(p); got != want || e != api.OK {
		t.Error(show(t, p), got, e)
	}
	if alone := !strings.Contains(factored(t, p), "^") && strings.Count(factored(t, p), "(") == 1; alone != want {
		t.Error(show(t, p), factored(t, p))
	}
}

// chance yields the same numbers in each run; they look as if they came by chance.
type chance struct{ state uint64 }

// below returns a number from 0 to n - 1.
func (c *chance) below(n int) int {
	c.state = c.state*0x5851f42d4c957f2d + 0x14057b7ef767814f
	return int(c.state>>33) % n
}

// integer returns an integer of up to the given bits, or its opposite, but not 0.
func (c *chance) integer(bits int) api.Rat {
	out := big.NewInt(1)
	for range c.below(bits) {
		out.Lsh(out, 1).Or(out, big.NewInt(int64(c.below(2))))
	}
	if c.below(2) == 0 {
		out.Neg(out)
	}
	return fromBig(out)
}

// poly returns a polynomial of the degree n whose coefficients are integers of up to the given bits, some of them 0.
func (c *chance) poly(n, bits int) []api.Rat {
	var out []api.Rat
	for i := range n + 1 {
		if i < n && c.below(4) == 0 {
			out = append(out, wholes(0)...)
		} else {
			out = append(out, c.integer(bits))
		}
	}
	return out
}

// modulo returns a polynomial modulo m of the degree n.
func (c *chance) modulo(n, m int) []int {
	var out []int
	for range n {
		out = append(out, c.below(m))
	}
	return append(out, 1+c.below(m-1))
}
