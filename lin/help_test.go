package lin_test

import (
	"math/big"
	"slices"
	"strings"
	"testing"

	"quadratrix/api"
	"quadratrix/lin"
	"quadratrix/num"
	"quadratrix/rat"
)

// vec returns the vector of a text: numbers with spaces in between.
func vec(text string) []api.Rat {
	var out []api.Rat
	for _, s := range strings.Fields(text) {
		a, e := rat.Parse(s)
		if e != api.OK {
			panic(text)
		}
		out = append(out, a)
	}
	return out
}

func vecs(texts ...string) [][]api.Rat {
	var out [][]api.Rat
	for _, s := range texts {
		out = append(out, vec(s))
	}
	return out
}

// mat returns the matrix of a text: rows, which are ended by semicolons but for the last one. It has one row at least.
func mat(text string) api.Mat {
	rows := vecs(strings.Split(text, ";")...)
	return api.Mat{Cols: len(rows[0]), Rows: rows}
}

// empty returns a matrix without rows, or without columns.
func empty(rows, cols int) api.Mat {
	return api.Mat{Cols: cols, Rows: make([][]api.Rat, rows)}
}

// show returns the text of a vector, and fails the test if a number is not canonical.
func show(t *testing.T, v []api.Rat) string {
	t.Helper()
	var out []string
	for _, a := range v {
		if !rat.Is(a) {
			t.Error("not canonical:", v)
		}
		out = append(out, rat.Print(a))
	}
	return strings.Join(out, " ")
}

// showMat returns the text of a matrix, and fails the test if it is not valid.
func showMat(t *testing.T, m api.Mat) string {
	t.Helper()
	var out []string
	for _, row := range m.Rows {
		if len(row) != m.Cols {
			t.Error("a row of another length:", m)
		}
		out = append(out, show(t, row))
	}
	return strings.Join(out, "; ")
}

// expectMat reports a matrix, and the error that came with it, other than those that are wanted.
func expectMat(t *testing.T, what string, got api.Mat, e api.Errno, want api.Mat) {
	t.Helper()
	if e != api.OK || got.Cols != want.Cols || len(got.Rows) != len(want.Rows) || showMat(t, got) != showMat(t, want) {
		t.Errorf("%s is [%s] of %d columns, error %d, want [%s] of %d columns", what, showMat(t, got), got.Cols, e, showMat(t, want), want.Cols)
	}
}

// expectNoMat reports a matrix that is not zero, or an error other than the one that is wanted.
func expectNoMat(t *testing.T, what string, got api.Mat, e, want api.Errno) {
	t.Helper()
	if e != want || got.Cols != 0 || len(got.Rows) != 0 {
		t.Errorf("%s is %v, error %d, want error %d", what, got, e, want)
	}
}

func expectVec(t *testing.T, what string, got []api.Rat, want string) {
	t.Helper()
	if show(t, got) != show(t, vec(want)) {
		t.Errorf("%s is (%s), want (%s)", what, show(t, got), want)
	}
}

// The functions from here to determinant compute with math/big alone.

func toBig(a api.Int) *big.Int {
	out := new(big.Int)
	for _, w := range slices.Backward(a.Abs) {
		out.Lsh(out, 32).Or(out, big.NewInt(int64(w)))
	}
	if a.Neg {
		out.Neg(out)
	}
	return out
}

func bigRat(a api.Rat) *big.Rat {
	return new(big.Rat).SetFrac(toBig(a.N), toBig(a.D))
}

func bigVec(v []api.Rat) []*big.Rat {
	out := make([]*big.Rat, len(v))
	for i, a := range v {
		out[i] = bigRat(a)
	}
	return out
}

func bigRows(m api.Mat) [][]*big.Rat {
	out := make([][]*big.Rat, len(m.Rows))
	for i, row := range m.Rows {
		out[i] = bigVec(row)
	}
	return out
}

func bigColumns(m api.Mat) [][]*big.Rat {
	out := make([][]*big.Rat, m.Cols)
	for _, row := range m.Rows {
		for k, a := range row {
			out[k] = append(out[k], bigRat(a))
		}
	}
	return out
}

func fromBig(a *big.Rat) api.Rat {
	n, e := num.Parse(a.Num().String())
	d, f := num.Parse(a.Denom().String())
	if e != api.OK || f != api.OK {
		panic("too long")
	}
	return api.Rat{N: n, D: d}
}

// dot returns the product of two vectors.
func dot(v, w []*big.Rat) *big.Rat {
	out := new(big.Rat)
	for i, a := range v {
		out.Add(out, new(big.Rat).Mul(a, w[i]))
	}
	return out
}

// product returns the product of two matrices by its definition.
func product(a, b api.Mat) api.Mat {
	out := api.Mat{Cols: b.Cols}
	columns := bigColumns(b)
	for _, row := range bigRows(a) {
		var line []api.Rat
		for _, column := range columns {
			line = append(line, fromBig(dot(row, column)))
		}
		out.Rows = append(out.Rows, line)
	}
	return out
}

// gauss returns the reduced echelon form, by Gauss' elimination, and its pivots.
func gauss(m api.Mat) (e api.Mat, pivots []int) {
	rows := bigRows(m)
	for col := range m.Cols {
		k := len(pivots)
		i := k + slices.IndexFunc(rows[k:], func(row []*big.Rat) bool { return row[col].Sign() != 0 })
		if i < k {
			continue
		}
		rows[i], rows[k] = rows[k], rows[i]
		inverse := new(big.Rat).Inv(rows[k][col])
		for _, a := range rows[k] {
			a.Mul(a, inverse)
		}
		for i, row := range rows {
			c := new(big.Rat).Set(row[col])
			for j, a := range row {
				if i != k {
					a.Sub(a, new(big.Rat).Mul(c, rows[k][j]))
				}
			}
		}
		pivots = append(pivots, col)
	}
	e.Cols = m.Cols
	for _, row := range rows[:len(pivots)] {
		var line []api.Rat
		for _, a := range row {
			line = append(line, fromBig(a))
		}
		e.Rows = append(e.Rows, line)
	}
	return e, pivots
}

// determinant returns the determinant by its definition: of the rows from the first one on, in the columns that are not used yet.
func determinant(rows [][]*big.Rat, used []bool) *big.Rat {
	out := new(big.Rat)
	if len(rows) == 0 {
		return out.SetInt64(1)
	}
	sign := big.NewRat(1, 1)
	for col, a := range rows[0] {
		if used[col] {
			continue
		}
		used[col] = true
		term := determinant(rows[1:], used)
		used[col] = false
		out.Add(out, term.Mul(term, a).Mul(term, sign))
		sign.Neg(sign)
	}
	return out
}

// chance yields the same numbers in each run; they look as if they came by chance.
type chance struct{ state uint64 }

// below returns a number from 0 to n - 1.
func (c *chance) below(n int) int {
	c.state = c.state*0x5851f42d4c957f2d + 0x14057b7ef767814f
	return int(c.state>>33) % n
}

// integer returns an integer of up to the given bits, or its opposite; it is not 0.
func (c *chance) integer(bits int) *big.Int {
	out := big.NewInt(1)
	for range c.below(bits) {
		out.Lsh(out, 1).Or(out, big.NewInt(int64(c.below(2))))
	}
	if c.below(2) == 0 {
		out.Neg(out)
	}
	return out
}

// number returns a number whose parts have up to the given bits: 0 and integers are often among them.
func (c *chance) number(bits int) api.Rat {
	out := new(big.Rat).SetInt(c.integer(bits))
	switch c.below(4) {
	case 0:
		out.SetInt64(0)
	case 1:
		out.SetFrac(out.Num(), c.integer(bits))
	}
	return fromBig(out)
}

func (c *chance) vector(n, bits int) []api.Rat {
	var out []api.Rat
	for range n {
		out = append(out, c.number(bits))
	}
	return out
}

func (c *chance) matrix(rows, cols, bits int) api.Mat {
	out := api.Mat{Cols: cols}
	for range rows {
		out.Rows = append(out.Rows, c.vector(cols, bits))
	}
	return out
}

// ofRank returns a matrix of the given rank at most.
func (c *chance) ofRank(rank, rows, cols, bits int) api.Mat {
	return product(c.matrix(rows, rank, bits), c.matrix(rank, cols, bits))
}

// some yields matrices of many sizes and ranks, those without rows and those without columns among them.
func some(yield func(api.Mat) bool) {
	c := &chance{state: 1}
	for i := range 400 {
		rows, cols, bits := c.below(8), c.below(8), 1+c.below(5+i/4)
		m := c.matrix(rows, cols, bits)
		if i%2 == 1 {
			m = c.ofRank(c.below(1+min(rows, cols)), rows, cols, bits)
		}
		if !yield(m) {
			return
		}
	}
}

// squares yields square matrices, singular ones among them.
func squares(yield func(api.Mat) bool) {
	c := &chance{state: 2}
	for i := range 200 {
		n, bits := i%6, 1+c.below(5+i/4)
		m := c.matrix(n, n, bits)
		if i%5 == 4 {
			m = c.ofRank(max(0, n-1), n, n, bits)
		}
		if !yield(m) {
			return
		}
	}
}

// broken are values that are no canonical numbers.
func broken() []api.Rat {
	two, four := num.Of(2), num.Of(4)
	return []api.Rat{{}, {N: two, D: four}, {N: two, D: num.Of(-1)}, {N: two}, {D: two}, {N: api.Int{Neg: true}, D: num.Of(1)}, {N: num.Of(1), D: api.Int{Abs: []uint32{3, 0}}}}
}

// invalid are matrices that are not valid.
func invalid() []api.Mat {
	out := []api.Mat{
		{Cols: -1},
		{Cols: api.MaxCols + 1},
		{Cols: 2, Rows: vecs("1 2", "3")},
		{Cols: 2, Rows: vecs("1 2", "3 4 5")},
		{Cols: 1, Rows: vecs("")},
		{Cols: 0, Rows: vecs("", "1")},
		empty(api.MaxRows+1, 0),
		{Cols: 1, Rows: slices.Repeat(vecs("1"), api.MaxRows+1)},
		{Cols: api.MaxCols + 1, Rows: [][]api.Rat{slices.Repeat(vec("1"), api.MaxCols+1)}},
	}
	for _, a := range broken() {
		out = append(out, api.Mat{Cols: 1, Rows: [][]api.Rat{{a}}}, api.Mat{Cols: 2, Rows: [][]api.Rat{vec("1 2"), {vec("1")[0], a}}})
	}
	return out
}

// unitMat returns the unit matrix.
func unitMat(n int) api.Mat {
	out := api.Mat{Cols: n}
	for i := range n {
		row := slices.Repeat(vec("0"), n)
		row[i] = vec("1")[0]
		out.Rows = append(out.Rows, row)
	}
	return out
}

// isProof reports, by the definition, whether y shows that m x = b has no solution, and fails the test if Check does not say the same.
func isProof(t *testing.T, m api.Mat, b, y []api.Rat) bool {
	t.Helper()
	is := len(y) == len(b) && dot(bigVec(y), bigVec(b)).Cmp(big.NewRat(1, 1)) == 0
	for _, column := range bigColumns(m) {
		is = is && dot(bigVec(y), column).Sign() == 0
	}
	show(t, y)
	if lin.Check(m, b, y) != is {
		t.Errorf("Check of [%s], (%s), (%s) is not %v", showMat(t, m), show(t, b), show(t, y), is)
	}
	return is
}
