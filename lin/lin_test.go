package lin_test

import (
	"slices"
	"testing"

	"quadratrix/api"
	"quadratrix/lin"
	"quadratrix/num"
	"quadratrix/rat"
)

// P5.1
func TestIs(t *testing.T) {
	for i, m := range invalid() {
		if lin.Is(m) {
			t.Error(i, m)
		}
	}
	ones := slices.Repeat(vec("1/2"), api.MaxCols)
	for i, m := range []api.Mat{
		{},
		empty(0, api.MaxCols),
		empty(api.MaxRows, 0),
		{Cols: api.MaxCols, Rows: slices.Repeat([][]api.Rat{ones}, api.MaxRows)},
		mat("1 -1/2; 0 3"),
		{Cols: 0, Rows: [][]api.Rat{{}, nil}},
	} {
		if !lin.Is(m) {
			t.Error(i, m)
		}
	}
}

// P5.1
func TestMul(t *testing.T) {
	m, e := lin.Mul(mat("1 2; 3 4"), mat("0 1; 1 0"))
	expectMat(t, "a product", m, e, mat("2 1; 4 3"))
	m, e = lin.Mul(mat("1/2 1/3"), mat("1/5; -1/7"))
	expectMat(t, "a product", m, e, mat("11/210"))
	m, e = lin.Mul(empty(3, 0), empty(0, 2))
	expectMat(t, "an empty sum", m, e, mat("0 0; 0 0; 0 0"))
	m, e = lin.Mul(empty(0, 2), mat("1 2 3; 4 5 6"))
	expectMat(t, "a product without rows", m, e, empty(0, 3))
	m, e = lin.Mul(mat("1 2"), empty(2, 0))
	expectMat(t, "a product without columns", m, e, empty(1, 0))
	c := &chance{state: 3}
	for i := range 200 {
		a, b := c.matrix(c.below(6), c.below(6), 1+i/2), api.Mat{}
		b = c.matrix(a.Cols, c.below(6), 1+c.below(60))
		m, e = lin.Mul(a, b)
		expectMat(t, "a product", m, e, product(a, b))
	}
	m, e = lin.Mul(c.matrix(api.MaxRows, api.MaxCols, 9), c.matrix(api.MaxCols, api.MaxCols, 9))
	if e != api.OK || !lin.Is(m) || len(m.Rows) != api.MaxRows || m.Cols != api.MaxCols {
		t.Error(e)
	}
}

// P5.1
func TestMulErrors(t *testing.T) {
	for _, x := range [][2]api.Mat{{mat("1 2"), mat("1 2")}, {mat("1"), empty(0, 1)}, {empty(1, 0), mat("1")}, {empty(0, 3), mat("1; 2")}, {mat("1; 2"), mat("1; 2")}} {
		m, e := lin.Mul(x[0], x[1])
		expectNoMat(t, "a product of other sizes", m, e, api.ErrArg)
	}
	for _, bad := range invalid() {
		for _, x := range [][2]api.Mat{{bad, mat("1 2; 3 4")}, {mat("1 2; 3 4"), bad}, {bad, bad}, {empty(1, 5), bad}} {
			m, e := lin.Mul(x[0], x[1])
			expectNoMat(t, "a product of what is no matrix", m, e, api.ErrForm)
		}
	}
}

// P5.1
func TestTranspose(t *testing.T) {
	for _, x := range [][2]api.Mat{
		{mat("1 2 3"), mat("1; 2; 3")},
		{mat("1; 2; 3"), mat("1 2 3")},
		{mat("1 2; -3/4 5"), mat("1 -3/4; 2 5")},
		{{}, {}},
		{empty(0, 3), empty(3, 0)},
		{empty(3, 0), empty(0, 3)},
		{empty(api.MaxCols, 0), empty(0, api.MaxCols)},
	} {
		m, e := lin.Transpose(x[0])
		expectMat(t, "Transpose", m, e, x[1])
	}
	for m := range some {
		got, e := lin.Transpose(m)
		want := api.Mat{Cols: len(m.Rows)}
		for k := range m.Cols {
			var row []api.Rat
			for i := range m.Rows {
				row = append(row, m.Rows[i][k])
			}
			want.Rows = append(want.Rows, row)
		}
		expectMat(t, "Transpose", got, e, want)
	}
	for _, m := range []api.Mat{empty(api.MaxCols+1, 0), {Cols: 1, Rows: slices.Repeat(vecs("1"), api.MaxRows)}} {
		got, e := lin.Transpose(m)
		expectNoMat(t, "Transpose of many rows", got, e, api.ErrLimit)
	}
	for _, m := range invalid() {
		got, e := lin.Transpose(m)
		expectNoMat(t, "Transpose of what is no matrix", got, e, api.ErrForm)
	}
}

// P5.2
func TestEchelon(t *testing.T) {
	for _, x := range []struct {
		m, want api.Mat
		pivots  []int
	}{
		{mat("0 2 4; 1 1 1; 1 2 3"), mat("1 0 -1; 0 1 2"), []int{0, 1}},
		{mat("0 0 0; 0 0 5"), mat("0 0 1"), []int{2}},
		{mat("0 0; 0 0"), empty(0, 2), nil},
		{mat("1 2 0 3; 2 4 1 1; 3 6 1 4"), mat("1 2 0 3; 0 0 1 -5"), []int{0, 2}},
		{mat("1/2 1/3; 1/4 1/5"), mat("1 0; 0 1"), []int{0, 1}},
		{api.Mat{}, api.Mat{}, nil},
		{empty(0, 7), empty(0, 7), nil},
		{empty(7, 0), empty(0, 0), nil},
	} {
		e, pivots, err := lin.Echelon(x.m)
		expectMat(t, "Echelon", e, err, x.want)
		if !slices.Equal(pivots, x.pivots) {
			t.Error(showMat(t, x.m), pivots)
		}
	}
	for m := range some {
		e, pivots, err := lin.Echelon(m)
		want, where := gauss(m)
		expectMat(t, "Echelon of "+showMat(t, m), e, err, want)
		if !slices.Equal(pivots, where) {
			t.Error(showMat(t, m), pivots, where)
		}
	}
	for _, m := range invalid() {
		e, pivots, err := lin.Echelon(m)
		expectNoMat(t, "Echelon of what is no matrix", e, err, api.ErrForm)
		if len(pivots) != 0 {
			t.Error(m, pivots)
		}
	}
}

// P5.2: there is just one form for each space of rows.
func TestOneEchelon(t *testing.T) {
	c := &chance{state: 4}
	for m := range some {
		e, pivots, _ := lin.Echelon(m)
		n := len(m.Rows)
		change := c.matrix(n, n, 6)
		if d, _ := lin.Det(change); rat.Sign(d) == 0 {
			change = unitMat(n)
			slices.Reverse(change.Rows)
		}
		other, _ := lin.Mul(change, m)
		other.Rows = append(other.Rows, m.Rows...)
		for _, same := range []api.Mat{e, other} {
			again, where, err := lin.Echelon(same)
			expectMat(t, "Echelon again", again, err, e)
			if !slices.Equal(where, pivots) {
				t.Error(showMat(t, same), where, pivots)
			}
		}
	}
}

// P5.3
func TestKernel(t *testing.T) {
	for _, x := range []struct {
		m    api.Mat
		want [][]api.Rat
	}{
		{mat("0 2 4; 1 1 1; 1 2 3"), vecs("1 -2 1")},
		{empty(0, 2), vecs("1 0", "0 1")},
		{mat("0 0"), vecs("1 0", "0 1")},
		{mat("0 1/2 0 3"), vecs("1 0 0 0", "0 0 1 0", "0 -6 0 1")},
		{mat("1 2; 3 4"), nil},
		{empty(3, 0), nil},
		{api.Mat{}, nil},
	} {
		basis, e := lin.Kernel(x.m)
		if e != api.OK || len(basis) != len(x.want) {
			t.Error(showMat(t, x.m), basis, e)
			continue
		}
		for i, v := range basis {
			expectVec(t, "Kernel of "+showMat(t, x.m), v, show(t, x.want[i]))
		}
	}
	for m := range some {
		checkKernel(t, m)
	}
	for _, m := range invalid() {
		if basis, e := lin.Kernel(m); e != api.ErrForm || len(basis) != 0 {
			t.Error(m, basis, e)
		}
	}
}

func checkKernel(t *testing.T, m api.Mat) {
	t.Helper()
	_, pivots := gauss(m)
	var free []int
	for col := range m.Cols {
		if !slices.Contains(pivots, col) {
			free = append(free, col)
		}
	}
	basis, e := lin.Kernel(m)
	if e != api.OK || len(basis) != len(free) {
		t.Fatal(showMat(t, m), len(basis), e)
	}
	for i, v := range basis {
		text := show(t, v)
		if len(v) != m.Cols {
			t.Fatal(showMat(t, m), text)
		}
		for k, col := range free {
			if want := num.Of(1); k == i && num.Cmp(v[col].N, want) != 0 || k != i && rat.Sign(v[col]) != 0 {
				t.Error(showMat(t, m), text, col)
			}
		}
		for _, row := range bigRows(m) {
			if dot(row, bigVec(v)).Sign() != 0 {
				t.Error(showMat(t, m), text)
			}
		}
	}
}

// G6 and G7: arguments stay as they are, and the results of a second call are those of the first one.
func TestArgumentsStay(t *testing.T) {
	all := func(m api.Mat) string {
		a, _ := lin.Mul(m, m)
		b, _ := lin.Transpose(m)
		c, _, _ := lin.Echelon(m)
		k, _ := lin.Kernel(m)
		x, y, _ := lin.Solve(m, m.Rows[0])
		r, s, _ := lin.Combine(m.Rows[1:], m.Rows[0])
		lin.Check(m, m.Rows[0], y)
		d, _ := lin.Det(m)
		v, _ := lin.Inverse(m)
		out := showMat(t, a) + showMat(t, b) + showMat(t, c) + showMat(t, v)
		for _, v := range append(k, x, y, r, s, []api.Rat{d}) {
			out += "; " + show(t, v)
		}
		return out
	}
	for m := range squares {
		if len(m.Rows) == 0 {
			continue
		}
		before := showMat(t, m)
		first := all(m)
		second := all(m)
		if showMat(t, m) != before {
			t.Error("changed", before, showMat(t, m))
		}
		if first != second {
			t.Error(before, first, second)
		}
	}
}
