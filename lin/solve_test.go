package lin_test

import (
	"slices"
	"testing"

	"quadratrix/api"
	"quadratrix/lin"
	"quadratrix/rat"
)

// P5.4
func TestSolve(t *testing.T) {
	for _, x := range []struct {
		m    api.Mat
		b, x string
	}{
		{mat("1 1; 1 -1"), "3 1", "2 1"},
		{mat("1 1; 2 2"), "1 2", "1 0"},
		{mat("0 2 4; 1 1 1"), "2 3", "2 1 0"},
		{mat("1/2 1/3"), "1/7", "2/7 0"},
		{mat("0 0 3"), "2", "0 0 2/3"},
		{mat("0 0"), "0", "0 0"},
		{empty(0, 3), "", "0 0 0"},
		{empty(2, 0), "0 0", ""},
		{api.Mat{}, "", ""},
	} {
		got, y, e := lin.Solve(x.m, vec(x.b))
		expectVec(t, "Solve of "+showMat(t, x.m), got, x.x)
		if len(y) != 0 || e != api.OK {
			t.Error(showMat(t, x.m), y, e)
		}
	}
	for _, x := range []struct {
		m api.Mat
		b string
	}{
		{mat("1 1; 2 2"), "1 3"},
		{mat("0"), "1"},
		{mat("0 0; 1 2; 0 0"), "0 5 -2/3"},
		{empty(1, 0), "1"},
		{empty(3, 0), "0 1/2 0"},
		{mat("1; 1; 1"), "1 1 2"},
	} {
		expectNone(t, x.m, vec(x.b))
	}
}

// expectNone checks that Solve proves that there is no solution.
func expectNone(t *testing.T, m api.Mat, b []api.Rat) {
	t.Helper()
	x, y, e := lin.Solve(m, b)
	if len(x) != 0 || e != api.ErrNone || !isProof(t, m, b, y) {
		t.Errorf("Solve of [%s], (%s) is (%s), (%s), error %d", showMat(t, m), show(t, b), show(t, x), show(t, y), e)
	}
}

// P5.4: whether there is a solution is told by the ranks, with and without the right side.
func TestEitherOr(t *testing.T) {
	c := &chance{state: 5}
	yes, no := 0, 0
	for m := range some {
		x := api.Mat{Cols: 1}
		for range m.Cols {
			x.Rows = append(x.Rows, c.vector(1, 20))
		}
		var b []api.Rat
		for _, row := range product(m, x).Rows {
			b = append(b, row[0])
		}
		for _, right := range [][]api.Rat{b, c.vector(len(m.Rows), 20), slices.Repeat(vec("0"), len(m.Rows))} {
			if checkSolve(t, m, right) {
				yes++
			} else {
				no++
			}
		}
	}
	if yes < 100 || no < 100 {
		t.Error(yes, no)
	}
}

// checkSolve checks what Solve returns, and reports whether there is a solution.
func checkSolve(t *testing.T, m api.Mat, b []api.Rat) bool {
	t.Helper()
	both := api.Mat{Cols: m.Cols + 1}
	for i, row := range m.Rows {
		both.Rows = append(both.Rows, append(slices.Clone(row), b[i]))
	}
	_, pivots := gauss(m)
	if _, more := gauss(both); len(more) > len(pivots) {
		expectNone(t, m, b)
		return false
	}
	x, y, e := lin.Solve(m, b)
	if e != api.OK || len(y) != 0 || len(x) != m.Cols {
		t.Fatal(showMat(t, m), show(t, b), x, y, e)
	}
	for i, row := range bigRows(m) {
		if dot(row, bigVec(x)).Cmp(bigRat(b[i])) != 0 {
			t.Error(showMat(t, m), show(t, b), show(t, x))
		}
	}
	for k, a := range x {
		if rat.Sign(a) != 0 && !slices.Contains(pivots, k) {
			t.Error("not 0 in a free column:", showMat(t, m), show(t, x))
		}
	}
	return true
}

// P5.4
func TestSolveErrors(t *testing.T) {
	for _, m := range invalid() {
		for _, b := range [][]api.Rat{nil, vec("1"), vec("1 2"), {{}}} {
			if x, y, e := lin.Solve(m, b); len(x) != 0 || len(y) != 0 || e != api.ErrForm {
				t.Error(m, b, x, y, e)
			}
		}
	}
	for _, a := range broken() {
		for _, b := range [][]api.Rat{{a}, {a, a}, {a, vec("1")[0]}, {vec("1")[0], a}, {a, a, a}} {
			if x, y, e := lin.Solve(mat("1 2; 3 4"), b); len(x) != 0 || len(y) != 0 || e != api.ErrForm {
				t.Error(b, x, y, e)
			}
		}
	}
	for _, b := range vecs("", "1", "1 2 3") {
		if x, y, e := lin.Solve(mat("1 1; 2 2"), b); len(x) != 0 || len(y) != 0 || e != api.ErrArg {
			t.Error(b, x, y, e)
		}
	}
	if _, _, e := lin.Solve(api.Mat{}, vec("0")); e != api.ErrArg {
		t.Error(e)
	}
}

// P5.5
func TestCheck(t *testing.T) {
	m := mat("1 1; 2 2")
	for _, x := range []struct {
		m    api.Mat
		b, y string
		want bool
	}{
		{m, "1 3", "-2 1", true},
		{m, "1 3", "2 -1", false},
		{m, "1 3", "-4 2", false},
		{m, "1 3", "1 0", false},
		{m, "1 3", "0 1/3", false},
		{m, "1 3", "-2", false},
		{m, "1 3", "-2 1 0", false},
		{m, "1", "-2 1", false},
		{m, "1 3 0", "-2 1", false},
		{m, "1 3 0", "-2 1 0", false},
		{m, "1", "1", false},
		{m, "1 2", "-2 1", false},
		{m, "1/2 2", "-2 1", true},
		{mat("1 0; 0 1"), "1 0", "1 0", false},
		{mat("0 1; 0 1"), "1 0", "1 -1", true},
		{mat("1 0; 1 1"), "1 0", "1 -1", false},
		{mat("1/2; 1/3"), "0 1", "-2/3 1", true},
		{empty(2, 0), "0 4", "7 1/4", true},
		{empty(2, 0), "0 0", "7 1/4", false},
		{empty(0, 2), "", "", false},
		{api.Mat{}, "", "", false},
	} {
		if got := lin.Check(x.m, vec(x.b), vec(x.y)); got != x.want {
			t.Error(showMat(t, x.m), x.b, x.y, got)
		}
	}
	for _, bad := range invalid() {
		v := slices.Repeat(vec("0"), len(bad.Rows))
		if len(v) > 0 {
			v[0] = vec("1")[0]
		}
		if lin.Check(bad, v, v) {
			t.Error(bad)
		}
	}
	none := empty(2, 0) // there the second number of y may be any one, and so may that of b if the one of y is 0
	for _, a := range broken() {
		if lin.Check(none, vec("1 0"), append(vec("1"), a)) || lin.Check(none, append(vec("1"), a), vec("1 0")) {
			t.Error(a)
		}
	}
}

// P5.6
func TestCombine(t *testing.T) {
	for _, x := range []struct {
		vs   [][]api.Rat
		w, r string
	}{
		{vecs("1 0 1", "2 0 2", "0 1 1"), "3 1 4", "3 0 1"},
		{vecs("0 0", "1/2 1/3", "0 1"), "1 1", "0 2 1/3"},
		{vecs("1 2"), "0 0", "0"},
		{nil, "0 0", ""},
		{nil, "", ""},
		{vecs("", ""), "", "0 0"},
	} {
		r, y, e := lin.Combine(x.vs, vec(x.w))
		expectVec(t, "Combine", r, x.r)
		if len(y) != 0 || e != api.OK {
			t.Error(x, y, e)
		}
	}
	r, y, e := lin.Combine(vecs("1 0"), vec("0 2"))
	if expectVec(t, "the proof", y, "0 1/2"); len(r) != 0 || e != api.ErrNone {
		t.Error(r, e)
	}
	r, y, e = lin.Combine(nil, vec("0 2"))
	if len(y) != 2 || len(r) != 0 || e != api.ErrNone || rat.Cmp(y[1], vec("1/2")[0]) != 0 {
		t.Error(r, y, e)
	}
}

// P5.6: Combine is Solve for the matrix whose columns are the vectors.
func TestCombinations(t *testing.T) {
	c := &chance{state: 6}
	for m := range some {
		columns := api.Mat{Cols: len(m.Rows)}
		for k := range m.Cols {
			var row []api.Rat
			for i := range m.Rows {
				row = append(row, m.Rows[i][k])
			}
			columns.Rows = append(columns.Rows, row)
		}
		factors := c.matrix(1, m.Cols, 9)
		for _, w := range [][]api.Rat{product(factors, columns).Rows[0], c.vector(len(m.Rows), 9)} {
			r, y, e := lin.Combine(columns.Rows, w)
			x, _, f := lin.Solve(m, w)
			if e != f || show(t, r) != show(t, x) || (e == api.ErrNone) != isProof(t, m, w, y) || e == api.OK && len(y) != 0 {
				t.Error(showMat(t, m), show(t, w), r, y, e, f)
			}
		}
	}
}

// P5.6
func TestCombineErrors(t *testing.T) {
	expect := func(vs [][]api.Rat, w []api.Rat, want api.Errno) {
		t.Helper()
		if r, y, e := lin.Combine(vs, w); len(r) != 0 || len(y) != 0 || e != want {
			t.Error(vs, w, r, y, e)
		}
	}
	long := slices.Repeat(vec("1"), api.MaxRows+1)
	many := slices.Repeat(vecs("1"), api.MaxCols+1)
	expect(vecs("1 0", "1"), vec("1 0"), api.ErrArg)
	expect(vecs("1 0", "1 2"), vec("1"), api.ErrArg)
	expect(vecs(""), vec("1"), api.ErrArg)
	expect(vecs("1"), nil, api.ErrArg)
	expect(vecs("1"), long, api.ErrArg)
	expect(many, nil, api.ErrArg)
	expect(many, vec("1"), api.ErrLimit)
	expect(slices.Repeat(vecs(""), api.MaxCols+1), nil, api.ErrLimit)
	expect(nil, long, api.ErrLimit)
	expect([][]api.Rat{long}, long, api.ErrLimit)
	for _, a := range broken() {
		bad := []api.Rat{a}
		expect([][]api.Rat{bad}, vec("1"), api.ErrForm)
		expect(vecs("1"), bad, api.ErrForm)
		expect([][]api.Rat{vec("1"), bad}, vec("1 2"), api.ErrForm)
		expect(vecs("1 2"), bad, api.ErrForm)
		expect(many, bad, api.ErrForm)
		expect(append(slices.Clone(many), bad), vec("1"), api.ErrForm)
		expect(nil, append(slices.Clone(long), a), api.ErrForm)
	}
	if r, y, e := lin.Combine(slices.Repeat([][]api.Rat{long[:api.MaxRows]}, api.MaxCols), long[:api.MaxRows]); len(y) != 0 || e != api.OK || len(r) != api.MaxCols || rat.Cmp(r[0], vec("1")[0]) != 0 || rat.Sign(r[1]) != 0 {
		t.Error(r, y, e)
	}
}
