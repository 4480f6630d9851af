package lin_test

import (
	"math/big"
	"slices"
	"testing"

	"quadratrix/api"
	"quadratrix/lin"
	"quadratrix/num"
	"quadratrix/rat"
)

// expectDet reports a determinant other than the one that is wanted.
func expectDet(t *testing.T, m api.Mat, want *big.Rat) {
	t.Helper()
	d, e := lin.Det(m)
	if e != api.OK || !rat.Is(d) || bigRat(d).Cmp(want) != 0 {
		t.Errorf("Det of [%s] is %s, error %d, want %s", showMat(t, m), rat.Print(d), e, want)
	}
}

// P5.7
func TestDet(t *testing.T) {
	for _, x := range []struct {
		m    api.Mat
		want string
	}{
		{mat("1/2 1; 1 4"), "1"},
		{api.Mat{}, "1"},
		{mat("-7/3"), "-7/3"},
		{mat("0"), "0"},
		{mat("0 1; 1 0"), "-1"},
		{mat("0 1 0; 0 0 1; 1 0 0"), "1"},
		{mat("0 0 1; 0 1 0; 1 0 0"), "-1"},
		{mat("1 2; 2 4"), "0"},
		{mat("1 2 3; 4 5 6; 7 8 9"), "0"},
		{mat("1000000000 1; 1 1000000000"), "999999999999999999"},
		{mat("1/1000000007 1/3; 1/5 1/1000000009"), "-1000000016000000048/15000000240000000945"},
	} {
		expectDet(t, x.m, bigRat(vec(x.want)[0]))
	}
	for m := range squares {
		expectDet(t, m, determinant(bigRows(m), make([]bool, m.Cols)))
	}
	for _, m := range []api.Mat{mat("1 2"), mat("1; 2"), empty(0, 1), empty(1, 0), empty(0, api.MaxCols), empty(api.MaxRows, 0)} {
		if d, e := lin.Det(m); e != api.ErrArg || !isNothing(d) {
			t.Error(m, d, e)
		}
	}
	for _, m := range invalid() {
		if d, e := lin.Det(m); e != api.ErrForm || !isNothing(d) {
			t.Error(m, d, e)
		}
	}
}

// isNothing reports whether a is the zero value, which is no number.
func isNothing(a api.Rat) bool {
	return !a.N.Neg && !a.D.Neg && len(a.N.Abs) == 0 && len(a.D.Abs) == 0
}

// P5.7: the determinant is greatest for what Hadamard's bound allows: rows with products 0, of numbers 1 and -1; and small against the numbers for others.
func TestDetSizes(t *testing.T) {
	m := mat("1")
	for n := 2; n <= 32; n *= 2 {
		double := api.Mat{Cols: n}
		for i := range n {
			row := slices.Clone(m.Rows[i%(n/2)])
			for _, a := range m.Rows[i%(n/2)] {
				if i >= n/2 {
					a = rat.Neg(a)
				}
				row = append(row, a)
			}
			double.Rows = append(double.Rows, row)
		}
		m = double
		want, half := big.NewInt(1), big.NewInt(int64(n))
		want.Exp(half, big.NewInt(int64(n/2)), nil)
		if n == 2 {
			want.Neg(want)
		}
		expectDet(t, m, new(big.Rat).SetInt(want))
	}
	c := &chance{state: 7}
	for _, bits := range []int{1, 20, 300, 3000} {
		a, b := unitMat(8), unitMat(8)
		for i := range 8 {
			for k := range i {
				a.Rows[i][k] = fromBig(new(big.Rat).SetInt(c.integer(bits)))
				b.Rows[k][i] = fromBig(new(big.Rat).SetInt(c.integer(bits)))
			}
		}
		expectDet(t, a, big.NewRat(1, 1))
		expectDet(t, product(a, b), big.NewRat(1, 1))
		b.Rows[5] = slices.Repeat(vec("0"), 8)
		expectDet(t, product(a, b), new(big.Rat))
	}
}

// P5.7
func TestDetOfProducts(t *testing.T) {
	c := &chance{state: 8}
	for a := range squares {
		b := c.matrix(a.Cols, a.Cols, 30)
		d, _ := lin.Det(a)
		e, _ := lin.Det(b)
		both, _ := lin.Mul(a, b)
		expectDet(t, both, bigRat(rat.Mul(d, e)))
		across, _ := lin.Transpose(a)
		expectDet(t, across, bigRat(d))
	}
}

// P5.8
func TestInverse(t *testing.T) {
	for _, x := range [][2]api.Mat{
		{mat("1/2 1; 1 4"), mat("4 -1; -1 1/2")},
		{mat("-3/7"), mat("-7/3")},
		{mat("0 1; 1 0"), mat("0 1; 1 0")},
		{mat("0 2 0; 0 0 3; 1 0 0"), mat("0 0 1; 1/2 0 0; 0 1/3 0")},
		{{}, {}},
	} {
		m, e := lin.Inverse(x[0])
		expectMat(t, "Inverse of "+showMat(t, x[0]), m, e, x[1])
	}
	for _, m := range []api.Mat{mat("1 1; 1 1"), mat("0"), mat("0 0; 0 0"), mat("0 1; 0 2"), mat("1 2 3; 4 5 6; 7 8 9")} {
		got, e := lin.Inverse(m)
		expectNoMat(t, "Inverse of a singular matrix", got, e, api.ErrNone)
	}
	none := 0
	for m := range squares {
		got, e := lin.Inverse(m)
		if determinant(bigRows(m), make([]bool, m.Cols)).Sign() == 0 {
			expectNoMat(t, "Inverse of a singular matrix", got, e, api.ErrNone)
			none++
			continue
		}
		expectMat(t, "m and its inverse", product(m, got), e, unitMat(m.Cols))
		expectMat(t, "its inverse and m", product(got, m), e, unitMat(m.Cols))
	}
	if none < 20 {
		t.Error(none)
	}
}

// P5.8
func TestInverseErrors(t *testing.T) {
	for _, m := range []api.Mat{mat("1 2"), mat("1; 2"), mat("0 0"), empty(0, 1), empty(1, 0)} {
		got, e := lin.Inverse(m)
		expectNoMat(t, "Inverse of another size", got, e, api.ErrArg)
	}
	for _, m := range invalid() {
		got, e := lin.Inverse(m)
		expectNoMat(t, "Inverse of what is no matrix", got, e, api.ErrForm)
	}
}

// P5.8: a matrix of Hilbert's has an inverse of integers, which are long.
func TestHilbert(t *testing.T) {
	n := api.MaxCols
	m := api.Mat{Cols: n}
	for i := range n {
		var row []api.Rat
		for k := range n {
			a, _ := rat.Of(1, i+k+1)
			row = append(row, a)
		}
		m.Rows = append(m.Rows, row)
	}
	inverse, e := lin.Inverse(m)
	unit, f := lin.Mul(inverse, m)
	expectMat(t, "the inverse and m", unit, max(e, f), unitMat(n))
	for _, row := range inverse.Rows {
		for _, a := range row {
			if num.Cmp(a.D, num.Of(1)) != 0 {
				t.Fatal(rat.Print(a))
			}
		}
	}
	d, e := lin.Det(m)
	back, f := lin.Det(inverse)
	if e != api.OK || f != api.OK || rat.Print(rat.Mul(d, back)) != "1" || num.Cmp(d.N, num.Of(1)) != 0 {
		t.Error(e, f)
	}
}
