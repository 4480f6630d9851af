package tower_test

import (
	"math/big"
	"slices"
	"strconv"
	"strings"
	"testing"

	"quadratrix/api"
	"quadratrix/rat"
)

// naive is an element, computed as it is defined, with math/big and Euclid's algorithm alone: package tower is held against it. Level 0 is the number q.
type naive struct {
	level    int
	q        *big.Rat
	num, den []naive
}

func number(a, b int64) naive {
	return naive{q: big.NewRat(a, b)}
}

// mono returns the monomial n.
func mono(n int) naive {
	return naive{level: n, num: []naive{number(0, 1), number(1, 1)}, den: []naive{number(1, 1)}}
}

func (a naive) isZero() bool {
	return a.level == 0 && a.q.Sign() == 0
}

func (a naive) isOne() bool {
	return a.level == 0 && a.q.Cmp(big.NewRat(1, 1)) == 0
}

// parts returns the numerator and the denominator at n.
func (a naive) parts(n int) (p, q []naive) {
	switch {
	case a.level == n:
		return a.num, a.den
	case a.isZero():
		return nil, []naive{number(1, 1)}
	}
	return []naive{a}, []naive{number(1, 1)}
}

func (a naive) neg() naive {
	return a.times(number(-1, 1))
}

func (a naive) plus(b naive) naive {
	if a.level == 0 && b.level == 0 {
		return naive{q: new(big.Rat).Add(a.q, b.q)}
	}
	n := max(a.level, b.level)
	p, q := a.parts(n)
	r, s := b.parts(n)
	return naiveFrac(n, naiveAdd(naiveMul(p, s), naiveMul(q, r)), naiveMul(q, s))
}

func (a naive) times(b naive) naive {
	if a.level == 0 && b.level == 0 {
		return naive{q: new(big.Rat).Mul(a.q, b.q)}
	}
	n := max(a.level, b.level)
	p, q := a.parts(n)
	r, s := b.parts(n)
	return naiveFrac(n, naiveMul(p, r), naiveMul(q, s))
}

// over returns a / b, for b other than 0.
func (a naive) over(b naive) naive {
	if a.level == 0 && b.level == 0 {
		return naive{q: new(big.Rat).Quo(a.q, b.q)}
	}
	n := max(a.level, b.level)
	p, q := a.parts(n)
	r, s := b.parts(n)
	return naiveFrac(n, naiveMul(p, s), naiveMul(q, r))
}

// naiveFrac returns p / q in the monomial n, for q other than zero.
func naiveFrac(n int, p, q []naive) naive {
	if len(p) > 1 && len(q) > 1 {
		g := naiveGcd(p, q)
		p, _ = naiveDivide(p, g)
		q, _ = naiveDivide(q, g)
	}
	if last := q[len(q)-1]; !last.isOne() {
		p, q = naiveScale(p, number(1, 1).over(last)), naiveScale(q, number(1, 1).over(last))
	}
	switch {
	case len(p) == 0:
		return number(0, 1)
	case len(p) == 1 && len(q) == 1:
		return p[0]
	}
	return naive{level: n, num: p, den: q}
}

func naiveCut(p []naive) []naive {
	for len(p) > 0 && p[len(p)-1].isZero() {
		p = p[:len(p)-1]
	}
	return p
}

func naiveAdd(p, q []naive) []naive {
	if len(p) < len(q) {
		p, q = q, p
	}
	out := slices.Clone(p)
	for i, c := range q {
		out[i] = out[i].plus(c)
	}
	return naiveCut(out)
}

func naiveScale(p []naive, c naive) []naive {
	if c.isOne() {
		return p
	}
	var out []naive
	for _, a := range p {
		out = append(out, a.times(c))
	}
	return naiveCut(out)
}

func naiveMul(p, q []naive) []naive {
	var out []naive
	for i, c := range p {
		row := make([]naive, i)
		for k := range row {
			row[k] = number(0, 1)
		}
		out = naiveAdd(out, append(row, naiveScale(q, c)...))
	}
	return out
}

func naiveSub(p, q []naive) []naive {
	return naiveAdd(p, naiveScale(q, number(-1, 1)))
}

func naiveDivide(p, q []naive) (quo, rem []naive) {
	rem = p
	for len(rem) >= len(q) {
		term := make([]naive, len(rem)-len(q)+1)
		for i := range term {
			term[i] = number(0, 1)
		}
		term[len(term)-1] = rem[len(rem)-1].over(q[len(q)-1])
		quo, rem = naiveAdd(quo, term), naiveSub(rem, naiveMul(term, q))
	}
	return quo, rem
}

func naiveMonic(p []naive) []naive {
	if len(p) == 0 || p[len(p)-1].isOne() {
		return p
	}
	return naiveScale(p, number(1, 1).over(p[len(p)-1]))
}

func naiveGcd(p, q []naive) []naive {
	for len(q) > 0 {
		_, rem := naiveDivide(p, q)
		p, q = q, naiveMonic(rem)
	}
	return naiveMonic(p)
}

func bigInt(a api.Int) *big.Int {
	out := new(big.Int)
	for _, w := range slices.Backward(a.Abs) {
		out.Lsh(out, 32).Or(out, big.NewInt(int64(w)))
	}
	if a.Neg {
		out.Neg(out)
	}
	return out
}

func bigRat(a api.Rat) *big.Rat {
	return new(big.Rat).SetFrac(bigInt(a.N), bigInt(a.D))
}

func fromBig(n *big.Int) api.Int {
	a := api.Int{Neg: n.Sign() < 0}
	rest, word := new(big.Int).Abs(n), big.NewInt(1<<32-1)
	for rest.Sign() > 0 {
		a.Abs = append(a.Abs, uint32(new(big.Int).And(rest, word).Uint64()))
		rest.Rsh(rest, 32)
	}
	return a
}

func fromRat(q *big.Rat) api.Rat {
	return api.Rat{N: fromBig(q.Num()), D: fromBig(q.Denom())}
}

// toNaive returns a valid element as a naive one.
func toNaive(e api.Elem) naive {
	if e.Level == 0 {
		return naive{q: bigRat(e.Q)}
	}
	return naive{level: e.Level, num: naiveList(e.Num), den: naiveList(e.Den)}
}

func naiveList(p []api.Elem) []naive {
	var out []naive
	for _, e := range p {
		out = append(out, toNaive(e))
	}
	return out
}

func (a naive) elem() api.Elem {
	if a.level == 0 {
		return api.Elem{Q: fromRat(a.q)}
	}
	return api.Elem{Level: a.level, Num: elems(a.num), Den: elems(a.den)}
}

func elems(p []naive) []api.Elem {
	var out []api.Elem
	for _, a := range p {
		out = append(out, a.elem())
	}
	return out
}

// reader reads texts of elements: with + - * / ^ and parentheses, whole numbers, and the monomials x, t and u, which are t_1 to t_3, and t1 to t12.
type reader struct {
	text string
}

// read returns the element of a text, by naive calculation.
func read(text string) naive {
	r := &reader{text: strings.ReplaceAll(text, " ", "")}
	a := r.sum()
	if r.text != "" {
		panic("what is " + r.text + " in " + text + "?")
	}
	return a
}

func (r *reader) next(any string) byte {
	if r.text == "" || !strings.Contains(any, r.text[:1]) {
		return 0
	}
	c := r.text[0]
	r.text = r.text[1:]
	return c
}

func (r *reader) sum() naive {
	a := r.product()
	for {
		switch r.next("+-") {
		case '+':
			a = a.plus(r.product())
		case '-':
			a = a.plus(r.product().neg())
		default:
			return a
		}
	}
}

func (r *reader) product() naive {
	if r.next("-") != 0 {
		return r.product().neg()
	}
	a := r.power()
	for {
		switch r.next("*/") {
		case '*':
			a = a.times(r.power())
		case '/':
			a = a.over(r.power())
		default:
			return a
		}
	}
}

func (r *reader) power() naive {
	a := r.unit()
	if r.next("^") == 0 {
		return a
	}
	out := number(1, 1)
	for range r.digits() {
		out = out.times(a)
	}
	return out
}

func (r *reader) digits() int {
	n := 0
	for n < len(r.text) && r.text[n] >= '0' && r.text[n] <= '9' {
		n++
	}
	k, _ := strconv.Atoi(r.text[:n])
	r.text = r.text[n:]
	return k
}

func (r *reader) unit() naive {
	switch c := r.next("(xtu"); {
	case c == '(':
		a := r.sum()
		r.next(")")
		return a
	case c == 'x':
		return mono(1)
	case c == 'u':
		return mono(3)
	case c == 't' && r.text != "" && r.text[0] >= '0' && r.text[0] <= '9':
		return mono(r.digits())
	case c == 't':
		return mono(2)
	}
	return number(int64(r.digits()), 1)
}

// elem returns the element of a text.
func elem(text string) api.Elem {
	return read(text).elem()
}

// poly returns the polynomial of a text: the coefficients, the lowest one first, with commas in between.
func poly(text string) []api.Elem {
	var out []api.Elem
	if text == "" {
		return nil
	}
	for s := range strings.SplitSeq(text, ",") {
		out = append(out, elem(s))
	}
	return out
}

func point(text string) []api.Rat {
	var out []api.Rat
	for s := range strings.FieldsSeq(text) {
		a, e := rat.Parse(s)
		if e != api.OK {
			panic(text)
		}
		out = append(out, a)
	}
	return out
}

// show returns a text of an element, valid or not.
func show(e api.Elem) string {
	if e.Level == 0 && len(e.Num) == 0 && len(e.Den) == 0 {
		return rat.Print(e.Q)
	}
	return "t" + strconv.Itoa(e.Level) + "[" + showPoly(e.Num) + "]/[" + showPoly(e.Den) + "]"
}

func showPoly(p []api.Elem) string {
	var out []string
	for _, e := range p {
		out = append(out, show(e))
	}
	return strings.Join(out, ", ")
}

// isSame compares elements field by field; it is held against Same itself.
func isSame(a, b api.Elem) bool {
	return a.Level == b.Level && sameInt(a.Q.N, b.Q.N) && sameInt(a.Q.D, b.Q.D) && slices.EqualFunc(a.Num, b.Num, isSame) && slices.EqualFunc(a.Den, b.Den, isSame)
}

func sameInt(a, b api.Int) bool {
	return a.Neg == b.Neg && slices.Equal(a.Abs, b.Abs)
}

// expect reports an element other than the one that is wanted; what tells of the arguments.
func expect(t *testing.T, got api.Elem, want naive, what string, args ...api.Elem) {
	t.Helper()
	if !isSame(got, want.elem()) {
		t.Errorf("%s of %s is %s, want %s", what, showPoly(args), show(got), show(want.elem()))
	}
}

func expectPoly(t *testing.T, got []api.Elem, want []naive, what string, args ...[]api.Elem) {
	t.Helper()
	if !slices.EqualFunc(got, elems(want), isSame) {
		t.Errorf("%s is [%s], want [%s], of", what, showPoly(got), showPoly(elems(want)))
		for _, p := range args {
			t.Errorf("    [%s]", showPoly(p))
		}
	}
}

// expectZero reports an error other than the one that is wanted, or an element with it that is not the zero value.
func expectZero(t *testing.T, got api.Elem, e, want api.Errno, what string) {
	t.Helper()
	if e != want || !isSame(got, api.Elem{}) {
		t.Errorf("%s is %s, error %d, want error %d", what, show(got), e, want)
	}
}

// chance makes data that look random, but are the same each time.
type chance uint64

func (c *chance) below(n int) int {
	*c = *c*6364136223846793005 + 1442695040888963407
	return int(*c>>33) % n
}

// number returns a small rational number, seldom 0.
func (c *chance) number() naive {
	return number(int64(c.below(23)-11), int64(1+max(0, c.below(6)-3)))
}

// poly returns a polynomial in the monomial n with up to so many coefficients.
func (c *chance) poly(n, size int) []naive {
	var out []naive
	for range c.below(size + 1) {
		out = append(out, c.elem(n-1, size))
	}
	return naiveCut(out)
}

// some returns such a polynomial that is not zero.
func (c *chance) some(n, size int) []naive {
	for {
		if p := c.poly(n, size); len(p) > 0 {
			return p
		}
	}
}

// elem returns an element of a level up to n, whose polynomials have up to so many coefficients.
func (c *chance) elem(n, size int) naive {
	switch {
	case n == 0:
		return c.number()
	case c.below(4) == 0:
		return c.elem(n-1, size)
	case c.below(2) == 0:
		return naiveFrac(n, c.some(n, size), []naive{number(1, 1)})
	}
	return naiveFrac(n, c.some(n, size), c.some(n, size))
}

// some returns elements of all kinds.
func some() []naive {
	var out []naive
	for _, s := range []string{"0", "1", "-1", "2", "-2/3", "x", "-x", "1/x", "x+1", "(x+1)/(x-1)", "x/(x^2-2)", "3*x^2/2-1/3", "t", "t/x", "t*x", "1/t", "x/(t+x)", "(t^2-x^2)/(t-1)", "(x+t)/(x-t)", "t+x", "t/(x+1)+x/(t+1)", "u", "u+t", "x/(u+t)", "u/(x*t)", "(u*t+x)/(u-1/t)", "t5", "t5/t3", "t12*x-1/t4"} {
		out = append(out, read(s))
	}
	c := chance(1)
	for i := range 15 {
		out = append(out, c.elem(1+i%2, 4-2*(i%2)))
	}
	return append(out, c.elem(3, 2), c.elem(3, 2))
}

// lists returns polynomials in the monomial n of all kinds.
func lists(n int) [][]naive {
	out := [][]naive{nil, {number(1, 1)}, {number(-3, 2)}, {number(0, 1), number(1, 1)}, {number(-1, 1), number(0, 1), number(1, 1)}, {number(2, 1), number(2, 1)}, {number(1, 2), number(1, 3)}}
	if n > 1 {
		x := mono(1)
		out = append(out, []naive{x}, []naive{number(1, 1), x}, []naive{x.over(x.plus(number(1, 1))), number(0, 1), number(1, 1).over(x)}, []naive{x.neg(), number(1, 1)}, []naive{x.times(x).neg(), number(0, 1), number(1, 1)})
	}
	if n == 3 {
		out = append(out, []naive{mono(2), number(1, 1)}, []naive{read("t*x"), read("t+x"), number(1, 1)}, []naive{read("1/(t+x)"), number(0, 1), mono(2)}, []naive{read("t/x-1"), read("x/t")})
	}
	c := chance(10 + n)
	for i := range 8 {
		out = append(out, c.poly(n, 4/n+i%2*(3-n)))
	}
	return out
}
