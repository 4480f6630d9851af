package rat_test

import (
	"math/big"
	"slices"
	"testing"

	"quadratrix/api"
	"quadratrix/num"
	"quadratrix/rat"
)

// quo returns the number n / d, which is in lowest terms, d above 0, without package rat.
func quo(n, d int) api.Rat {
	return api.Rat{N: num.Of(n), D: num.Of(d)}
}

func sameInt(a, b api.Int) bool {
	return a.Neg == b.Neg && slices.Equal(a.Abs, b.Abs)
}

func same(a, b api.Rat) bool {
	return sameInt(a.N, b.N) && sameInt(a.D, b.D)
}

// isNothing reports whether a is the zero value, which is no number.
func isNothing(a api.Rat) bool {
	return same(a, api.Rat{})
}

// bigInt, bigRat and fromBig translate without package rat, so that math/big can be held against it.
func bigInt(a api.Int) *big.Int {
	n, ok := new(big.Int).SetString(num.Print(a), 10)
	if !ok {
		panic("no integer")
	}
	return n
}

func bigRat(a api.Rat) *big.Rat {
	return new(big.Rat).SetFrac(bigInt(a.N), bigInt(a.D))
}

func fromBigInt(n *big.Int) api.Int {
	a, e := num.Parse(n.String())
	if e != api.OK {
		panic("too long")
	}
	return a
}

func fromBig(r *big.Rat) api.Rat {
	return api.Rat{N: fromBigInt(r.Num()), D: fromBigInt(r.Denom())}
}

// expect reports a number that is not the canonical one with the value want.
func expect(t *testing.T, what string, got api.Rat, want *big.Rat, args ...api.Rat) {
	t.Helper()
	if !same(got, fromBig(want)) {
		t.Errorf("%s of %v is %v, want %v", what, texts(args), texts([]api.Rat{got}), want)
	}
}

func texts(list []api.Rat) []string {
	var out []string
	for _, a := range list {
		out = append(out, rat.Print(a))
	}
	return out
}

// dice yields numbers that look random and are the same in each run.
type dice struct{ state uint64 }

func (d *dice) below(n int) int {
	d.state = d.state*6364136223846793005 + 1442695040888963407
	return int(d.state>>33) % n
}

// whole returns an integer of up to n words, often one at which carries begin or end.
func (d *dice) whole(n int) *big.Int {
	out := new(big.Int)
	for range d.below(n + 1) {
		word := int64([]int{0, 1, 1<<32 - 1, d.below(100), d.below(1 << 31), d.below(1 << 31)}[d.below(6)])
		out.Add(out.Lsh(out, 32), big.NewInt(word))
	}
	if d.below(2) == 1 {
		out.Neg(out)
	}
	return out
}

// number returns a rational number whose parts have up to n words.
func (d *dice) number(n int) api.Rat {
	den := d.whole(n)
	if den.Sign() == 0 {
		den.SetInt64(int64(1 + d.below(9)))
	}
	return fromBig(new(big.Rat).SetFrac(d.whole(n), den))
}

// some returns numbers with small parts, all of those with parts up to 6 among them, and some with long ones.
func some() []api.Rat {
	var out []api.Rat
	for d := 1; d <= 6; d++ {
		for n := -6; n <= 6; n++ {
			if new(big.Int).GCD(nil, nil, big.NewInt(int64(max(n, -n))), big.NewInt(int64(d))).Int64() == 1 {
				out = append(out, quo(n, d))
			}
		}
	}
	w := &dice{state: 1}
	for i := range 40 {
		out = append(out, w.number(1+i%6))
	}
	return out
}

// pairs hands pairs of numbers to f; many of them have common divisors.
func pairs(f func(a, b api.Rat)) {
	list := some()
	for _, a := range list {
		for _, b := range list {
			f(a, b)
		}
	}
	w := &dice{state: 2}
	for i := range 300 {
		a, b := bigRat(w.number(2+i%20)), bigRat(w.number(2+i%9))
		g, h := w.whole(3), w.whole(3)
		if g.Sign() == 0 || h.Sign() == 0 {
			continue
		}
		up, down := new(big.Rat).SetFrac(g, h), new(big.Rat).SetFrac(h, g)
		f(fromBig(a.Mul(a, up)), fromBig(b.Mul(b, down)))
		f(fromBig(a), fromBig(down.Mul(down, down)))
	}
}

// triples hands triples of numbers to f.
func triples(f func(a, b, c api.Rat)) {
	w := &dice{state: 3}
	for i := range 1500 {
		f(w.number(i%4), w.number(w.below(5)), w.number(w.below(3)))
	}
	for range 10 {
		f(w.number(60), w.number(70), w.number(50))
	}
}

// broken are values that are no canonical numbers.
func broken() []api.Rat {
	loose := []api.Int{{Neg: true}, {Abs: []uint32{0}}, {Neg: true, Abs: []uint32{5, 0}}}
	out := []api.Rat{
		{}, quo(2, 4), quo(-2, 4), quo(0, 2), quo(1, -2), quo(-1, -1), quo(1, 0), quo(0, 0), quo(-7, 0), quo(0, -1), quo(6, 3),
		{N: num.Of(1 << 62), D: num.Of(-(1 << 61))},
	}
	for _, a := range loose {
		out = append(out, api.Rat{N: a, D: num.Of(1)}, api.Rat{N: a, D: num.Of(3)}, api.Rat{N: num.Of(-3), D: a}, api.Rat{N: num.Of(1), D: a}, api.Rat{N: a, D: a})
	}
	return out
}
