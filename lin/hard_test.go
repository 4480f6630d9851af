package lin_test

import (
	"math/big"
	"slices"
	"testing"

	"quadratrix/api"
	"quadratrix/lin"
	"quadratrix/rat"
)

// primes returns the product of the prime numbers above 2^30 from one index up to another.
func primes(from, to int) *big.Int {
	out := big.NewInt(1)
	for i, p := 0, int64(1<<30); i < to; p++ {
		m := big.NewInt(p)
		if !m.ProbablyPrime(0) {
			continue
		}
		if i >= from {
			out.Mul(out, m)
		}
		i++
	}
	return out
}

// P5.2 to P5.8: numbers that are 0 modulo the first prime numbers, so that pivots, ranks and numbers are not those that these show.
func TestMisleadingPrimes(t *testing.T) {
	for _, x := range [][2]int{{0, 1}, {0, 2}, {0, 10}, {1, 2}, {1, 5}, {2, 3}} {
		p := primes(x[0], x[1])
		a := rat.Print(fromBig(new(big.Rat).SetInt(p)))
		more := rat.Print(fromBig(new(big.Rat).SetInt(new(big.Int).Add(p, big.NewInt(1)))))
		over := "1/" + a
		for _, m := range []api.Mat{
			mat(a),
			mat("1 " + a),
			mat(a + " 1"),
			mat(a + " 1; 0 " + a),
			mat("0 " + a + " 1 1; 1 0 0 0"),
			mat(a + " 1 1; 1 0 " + a),
			mat("1 1; 1 " + more),
			mat("1 1 2; 1 " + more + " 3; 2 2 5; 0 0 " + a),
			mat("1 1 1; " + a + " 0 0; 0 " + a + " 1"),
			mat("1 2 3; 4 5 6; 7 8 " + a),
			mat(over + " 1; 1 " + over),
			mat(over + " " + a + "; 1 " + a),
		} {
			checkAll(t, m)
		}
	}
}

// checkAll checks all functions for a matrix.
func checkAll(t *testing.T, m api.Mat) {
	t.Helper()
	e, pivots, err := lin.Echelon(m)
	want, where := gauss(m)
	expectMat(t, "Echelon of "+showMat(t, m), e, err, want)
	if !slices.Equal(pivots, where) {
		t.Error(showMat(t, m), pivots)
	}
	checkKernel(t, m)
	for i := range m.Rows {
		b := slices.Repeat(vec("0"), len(m.Rows))
		b[i] = vec("1")[0]
		checkSolve(t, m, b)
	}
	checkSolve(t, m, vec("1 -2 3 5")[:len(m.Rows)])
	if len(m.Rows) != m.Cols {
		return
	}
	d := determinant(bigRows(m), make([]bool, m.Cols))
	expectDet(t, m, d)
	inverse, err := lin.Inverse(m)
	if d.Sign() == 0 {
		expectNoMat(t, "Inverse of a singular matrix", inverse, err, api.ErrNone)
	} else {
		expectMat(t, "m and its inverse", product(m, inverse), err, unitMat(m.Cols))
	}
}

// P5.2 to P5.6: matrices of the greatest size.
func TestGreatest(t *testing.T) {
	c := &chance{state: 9}
	few := api.MaxCols / 3
	m, e := lin.Mul(c.matrix(api.MaxRows, few, 6), c.matrix(few, api.MaxCols, 6))
	if e != api.OK {
		t.Fatal(e)
	}
	form, pivots, err := lin.Echelon(m)
	if err != api.OK || len(pivots) != few || len(form.Rows) != few {
		t.Fatal(pivots, err)
	}
	basis, err := lin.Kernel(m)
	columns, _ := lin.Transpose(api.Mat{Cols: m.Cols, Rows: basis})
	zero, _ := lin.Mul(m, columns)
	if err != api.OK || len(basis) != api.MaxCols-few || slices.ContainsFunc(slices.Concat(zero.Rows...), func(a api.Rat) bool { return rat.Sign(a) != 0 }) {
		t.Error(len(basis), err)
	}
	b := c.vector(api.MaxRows, 6)
	if _, y, err := lin.Solve(m, b); err != api.ErrNone || !lin.Check(m, b, y) {
		t.Error(err)
	}
	ones := api.Mat{Cols: 1, Rows: slices.Repeat(vecs("1"), api.MaxCols)}
	sums, _ := lin.Mul(m, ones)
	x, y, err := lin.Solve(m, slices.Concat(sums.Rows...))
	if err != api.OK || len(y) != 0 || len(x) != m.Cols {
		t.Fatal(err)
	}
	var column api.Mat
	column.Cols = 1
	for _, a := range x {
		column.Rows = append(column.Rows, []api.Rat{a})
	}
	again, err := lin.Mul(m, column)
	expectMat(t, "the right side", again, err, sums)
}

// P5.2 to P5.8: long numbers.
func TestLong(t *testing.T) {
	c := &chance{state: 10}
	for range 10 {
		checkAll(t, c.matrix(1+c.below(4), 1+c.below(4), 2000))
		checkAll(t, c.matrix(3, 3, 500))
	}
}
