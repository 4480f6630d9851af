package qpoly_test

import (
	"math/big"
	"slices"
	"strings"
	"testing"

	"quadratrix/api"
	"quadratrix/num"
	"quadratrix/qpoly"
	"quadratrix/rat"
)

// read returns the number of a text.
func read(text string) api.Rat {
	a, e := rat.Parse(text)
	if e != api.OK {
		panic(text)
	}
	return a
}

// poly returns the polynomial of a text: the coefficients, the lowest one first, with spaces between them.
func poly(text string) []api.Rat {
	var out []api.Rat
	for s := range strings.FieldsSeq(text) {
		out = append(out, read(s))
	}
	return out
}

// polys returns the polynomials of a text, with semicolons between them.
func polys(text string) [][]api.Rat {
	var out [][]api.Rat
	for s := range strings.SplitSeq(text, ";") {
		out = append(out, poly(s))
	}
	return out
}

func show(list ...[]api.Rat) string {
	var out []string
	for _, p := range list {
		var l []string
		for _, a := range p {
			l = append(l, rat.Print(a))
		}
		out = append(out, "["+strings.Join(l, " ")+"]")
	}
	return strings.Join(out, " ")
}

func sameInt(a, b api.Int) bool {
	return a.Neg == b.Neg && slices.Equal(a.Abs, b.Abs)
}

func sameRat(a, b api.Rat) bool {
	return sameInt(a.N, b.N) && sameInt(a.D, b.D)
}

func same(p, q []api.Rat) bool {
	return slices.EqualFunc(p, q, sameRat)
}

func sameList(l, m [][]api.Rat) bool {
	return slices.EqualFunc(l, m, same)
}

// isNothing reports whether a is the zero value, which is no number.
func isNothing(a api.Rat) bool {
	return sameRat(a, api.Rat{})
}

// bigPoly is a polynomial whose functions compute as it is defined, with math/big alone, so that package qpoly can be held against it. The last coefficient is not 0.
type bigPoly []*big.Rat

func bigRat(a api.Rat) *big.Rat {
	r, ok := new(big.Rat).SetString(rat.Print(a))
	if !ok {
		panic("no number")
	}
	return r
}

func toBig(p []api.Rat) bigPoly {
	var out bigPoly
	for _, a := range p {
		out = append(out, bigRat(a))
	}
	return out
}

func wordsOf(n *big.Int) api.Int {
	a := api.Int{Neg: n.Sign() < 0}
	rest, word := new(big.Int).Abs(n), big.NewInt(1<<32-1)
	for rest.Sign() > 0 {
		a.Abs = append(a.Abs, uint32(new(big.Int).And(rest, word).Uint64()))
		rest.Rsh(rest, 32)
	}
	return a
}

func fromRat(r *big.Rat) api.Rat {
	return api.Rat{N: wordsOf(r.Num()), D: wordsOf(r.Denom())}
}

func (p bigPoly) list() []api.Rat {
	var out []api.Rat
	for _, a := range p {
		out = append(out, fromRat(a))
	}
	return out
}

func (p bigPoly) cut() bigPoly {
	n := len(p)
	for n > 0 && p[n-1].Sign() == 0 {
		n--
	}
	return p[:n]
}

func (p bigPoly) at(i int) *big.Rat {
	if i < len(p) {
		return p[i]
	}
	return new(big.Rat)
}

func (p bigPoly) plus(q bigPoly) bigPoly {
	var out bigPoly
	for i := range max(len(p), len(q)) {
		out = append(out, new(big.Rat).Add(p.at(i), q.at(i)))
	}
	return out.cut()
}

func (p bigPoly) scale(c *big.Rat) bigPoly {
	var out bigPoly
	for _, a := range p {
		out = append(out, new(big.Rat).Mul(a, c))
	}
	return out.cut()
}

func (p bigPoly) minus(q bigPoly) bigPoly {
	return p.plus(q.scale(big.NewRat(-1, 1)))
}

func (p bigPoly) shift(n int) bigPoly {
	var out bigPoly
	for range n {
		out = append(out, new(big.Rat))
	}
	return append(out, p...).cut()
}

func (p bigPoly) times(q bigPoly) bigPoly {
	var out bigPoly
	for i, a := range p {
		out = out.plus(q.scale(a).shift(i))
	}
	return out
}

func (p bigPoly) divide(q bigPoly) (quo, rem bigPoly) {
	rem = p
	for len(rem) >= len(q) {
		c := new(big.Rat).Quo(rem[len(rem)-1], q[len(q)-1])
		term := bigPoly{c}.shift(len(rem) - len(q))
		quo, rem = quo.plus(term), rem.minus(term.times(q))
	}
	return quo, rem
}

func (p bigPoly) monic() bigPoly {
	if len(p) == 0 {
		return nil
	}
	return p.scale(new(big.Rat).Inv(p[len(p)-1]))
}

func (p bigPoly) gcd(q bigPoly) bigPoly {
	for len(q) > 0 {
		_, rem := p.divide(q)
		p, q = q, rem.monic()
	}
	return p.monic()
}

func (p bigPoly) deriv() bigPoly {
	var out bigPoly
	for i := 1; i < len(p); i++ {
		out = append(out, new(big.Rat).Mul(p[i], big.NewRat(int64(i), 1)))
	}
	return out
}

func (p bigPoly) eval(x *big.Rat) *big.Rat {
	out := new(big.Rat)
	for _, a := range slices.Backward(p) {
		out.Add(out.Mul(out, x), a)
	}
	return out
}

func (p bigPoly) compose(q bigPoly) bigPoly {
	var out bigPoly
	for _, a := range slices.Backward(p) {
		out = out.times(q).plus(bigPoly{a}.cut())
	}
	return out
}

// sylvester returns Sylvester's matrix.
func sylvester(p, q bigPoly) [][]*big.Rat {
	m, n := len(p)-1, len(q)-1
	row := func(l bigPoly, i int) []*big.Rat {
		var out []*big.Rat
		for k := range m + n {
			a := new(big.Rat)
			if k >= i && k < i+len(l) {
				a.Set(l[len(l)-1-(k-i)])
			}
			out = append(out, a)
		}
		return out
	}
	var out [][]*big.Rat
	for i := range n {
		out = append(out, row(p, i))
	}
	for i := range m {
		out = append(out, row(q, i))
	}
	return out
}

// determinant returns the determinant, by elimination of columns.
func determinant(rows [][]*big.Rat) *big.Rat {
	out := big.NewRat(1, 1)
	for i := range rows {
		k := i
		for k < len(rows) && rows[k][i].Sign() == 0 {
			k++
		}
		if k == len(rows) {
			return new(big.Rat)
		}
		if k != i {
			rows[i], rows[k] = rows[k], rows[i]
			out.Neg(out)
		}
		out.Mul(out, rows[i][i])
		for _, other := range rows[i+1:] {
			f := new(big.Rat).Quo(other[i], rows[i][i])
			for j := i; j < len(rows); j++ {
				other[j].Sub(other[j], new(big.Rat).Mul(f, rows[i][j]))
			}
		}
	}
	return out
}

// expect reports a polynomial that is not the canonical list of want.
func expect(t *testing.T, what string, got []api.Rat, want bigPoly, args ...[]api.Rat) {
	t.Helper()
	if !same(got, want.list()) {
		t.Errorf("%s of %s is %s, want %s", what, show(args...), show(got), show(want.list()))
	}
}

// dice yields numbers that look random and are the same in each run.
type dice struct{ state uint64 }

func (d *dice) below(n int) int {
	d.state = d.state*6364136223846793005 + 1442695040888963407
	return int(d.state>>33) % n
}

// whole returns an integer of up to n words.
func (d *dice) whole(n int) *big.Int {
	out := new(big.Int)
	for range d.below(n + 1) {
		word := int64([]int{0, 1, 1<<32 - 1, d.below(100), d.below(1 << 31)}[d.below(5)])
		out.Add(out.Lsh(out, 32), big.NewInt(word))
	}
	if d.below(2) == 1 {
		out.Neg(out)
	}
	return out
}

// number returns a number: small whole ones, small fractions, and ones of up to n words.
func (d *dice) number(n int) *big.Rat {
	switch d.below(4) {
	case 0, 1:
		return big.NewRat(int64(d.below(9)-4), 1)
	case 2:
		return big.NewRat(int64(d.below(19)-9), int64(1+d.below(9)))
	}
	den := d.whole(n)
	if den.Sign() == 0 {
		den.SetInt64(1)
	}
	return new(big.Rat).SetFrac(d.whole(n), den)
}

// poly returns a polynomial of a degree up to n, with numbers of up to k words.
func (d *dice) poly(n, k int) []api.Rat {
	var out bigPoly
	for range d.below(n + 2) {
		out = append(out, d.number(k))
	}
	return out.cut().list()
}

// integers returns a polynomial of the degree n whose coefficients are integers of k words, with any signs.
func (d *dice) integers(n, k int) []api.Rat {
	var out bigPoly
	for range n + 1 {
		c := big.NewInt(int64(1 + d.below(1<<31-2)))
		for range k - 1 {
			c.Add(c.Lsh(c, 32), big.NewInt(int64(d.below(1<<31))))
		}
		if d.below(2) == 1 {
			c.Neg(c)
		}
		out = append(out, new(big.Rat).SetInt(c))
	}
	return out.list()
}

// some returns polynomials of many shapes: numbers, powers of x, ones with gaps, with fractions, with long numbers and with many terms.
func some() [][]api.Rat {
	out := polys("; 1; -1; 5; -2/3; 0 1; 0 -1; 1 1; -1 1; 1 2; 2 -2; 1/2 1/3; 0 0 1; 0 0 0 5/7; -1 0 1; 1 0 1; -2 0 1; 1 2 1; 0 -1 0 1; 1 -2 -1 2; 4 0 0 0 1; -1 0 0 0 0 0 1; 1/6 -1/10 0 1/15; 0 0 -3 0 0 6")
	w := &dice{state: 1}
	for i := range 14 {
		out = append(out, w.poly(1+i, i/4))
	}
	out = append(out, w.integers(7, 2), w.integers(12, 1), w.integers(20, 3))
	return out
}

// pairs hands pairs of polynomials to f; many of them have a common divisor.
func pairs(f func(p, q []api.Rat)) {
	list := some()
	for _, p := range list {
		for _, q := range list {
			f(p, q)
		}
	}
	w := &dice{state: 2}
	for i := range 60 {
		g := toBig(w.poly(1+i%5, 1))
		f(toBig(w.poly(4, 1)).times(g).list(), toBig(w.poly(5, 1)).times(g).list())
	}
}

// triples hands triples of polynomials to f.
func triples(f func(p, q, r []api.Rat)) {
	w := &dice{state: 3}
	for i := range 150 {
		f(w.poly(i%9, 1), w.poly(w.below(7), 2), w.poly(w.below(5), 1))
	}
	for i := range 6 {
		f(w.integers(10+i, 1+i), w.integers(9, 2), w.integers(8, 1+i%2))
	}
}

// dense returns pairs of whole polynomials with many terms, whose coefficients are just below powers of two, so that carries run through all of the product, and its coefficients fill their words.
func dense() [][2][]api.Rat {
	var out [][2][]api.Rat
	for _, bits := range []uint{61, 62, 96} {
		full := new(big.Int).Sub(new(big.Int).Lsh(big.NewInt(1), bits), big.NewInt(1))
		for _, n := range []int{5, 6, 7, 8, 14, 16, 33, 60} {
			for _, signs := range []string{"+", "-", "+-", "++-", "+--0+"} {
				p := pattern(n, full, signs)
				out = append(out, [2][]api.Rat{p.list(), p.list()}, [2][]api.Rat{p.list(), p.times(p[:3]).list()}, [2][]api.Rat{p.list(), p.scale(big.NewRat(-1, 1)).shift(3).list()})
			}
		}
	}
	return out
}

// pattern returns a polynomial with n coefficients c, -c or 0, as the signs say in turn, and with the leading coefficient 1.
func pattern(n int, c *big.Int, signs string) bigPoly {
	var p bigPoly
	for i := range n {
		a := new(big.Rat)
		switch signs[i%len(signs)] {
		case '+':
			a.SetInt(c)
		case '-':
			a.SetInt(new(big.Int).Neg(c))
		}
		p = append(p, a)
	}
	return append(p, big.NewRat(1, 1))
}

// broken are lists that are no canonical polynomials.
func broken() [][]api.Rat {
	one, two := num.Of(1), num.Of(2)
	return [][]api.Rat{
		poly("0"), poly("1 0"), poly("0 0 0"), poly("1 2 0 0"),
		{{}}, {{}, {}}, {{}, read("1")}, {read("1"), {}},
		{{N: two, D: two}}, {read("1"), {N: two, D: num.Of(4)}}, {{N: num.Of(6), D: num.Of(4)}, read("3")},
		{{N: one, D: num.Of(-1)}}, {read("1/2"), {N: one, D: num.Of(-2)}},
		{{N: one, D: num.Of(0)}}, {{N: one, D: num.Of(0)}, read("1")}, {read("0"), {N: num.Of(-7), D: num.Of(0)}},
		{{N: num.Of(0), D: two}}, {{N: num.Of(0), D: two}, read("1")},
		{{N: api.Int{Neg: true}, D: one}}, {{N: api.Int{Neg: true}, D: one}, read("1")},
		{{N: api.Int{Abs: []uint32{5, 0}}, D: one}}, {{N: api.Int{Abs: []uint32{0}}, D: one}, read("2"), read("1")},
		{{N: one, D: api.Int{Abs: []uint32{3, 0}}}}, {read("1"), {N: api.Int{Abs: []uint32{0, 0}}, D: one}},
	}
}

// ok fails the test unless there was no error.
func ok(t *testing.T, e api.Errno) {
	t.Helper()
	if e != api.OK {
		t.Fatal(e)
	}
}

// pow returns a power of which no error is expected.
func pow(t *testing.T, p []api.Rat, n int) []api.Rat {
	t.Helper()
	q, e := qpoly.Pow(p, n)
	ok(t, e)
	return q
}
