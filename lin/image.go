package lin

import (
	"iter"
	"slices"
)

// grid is a list of rows of residues modulo a prime number.
type grid [][]uint64

// others yields the rows but for the one with the index k.
func (g grid) others(k int) iter.Seq[[]uint64] {
	return func(yield func([]uint64) bool) {
		for i, row := range g {
			if i != k && !yield(row) {
				return
			}
		}
	}
}

func (g grid) swap(i, k int) {
	g[i], g[k] = g[k], g[i]
}

// profile tells on which rows and columns of a matrix its reduced echelon form depends.
type profile struct {
	pivots []int // the columns of the pivots
	free   []int // the other columns
	from   []int // the rows that have got a pivot: they are linearly independent
}

// leads reports whether the first n columns have pivots.
func (p profile) leads(n int) bool {
	return len(p.pivots) >= n && (n == 0 || p.pivots[n-1] == n-1)
}

// image is the reduced echelon form of a matrix modulo a prime number, with rows of zeros behind it, one for each row of the matrix that has got no pivot.
type image struct {
	grid
	profile
	prime
	det uint64 // if each row has a pivot: the determinant of the matrix without its free columns
}

// image returns the image of m modulo p.
func (m matrix) image(p prime) *image {
	g := &image{prime: p, det: 1}
	for i, row := range m.list {
		g.grid = append(g.grid, p.residues(row))
		g.from = append(g.from, i)
	}
	for col := range m.cols {
		if g.raise(col) {
			g.clear(col)
			g.pivots = append(g.pivots, col)
		} else {
			g.free = append(g.free, col)
		}
	}
	g.from = g.from[:len(g.pivots)]
	return g
}

// raise looks for a row with a pivot in a column, brings it behind those with pivots, and reports whether there is any.
func (g *image) raise(col int) bool {
	k := len(g.pivots)
	i := slices.IndexFunc(g.grid[k:], func(row []uint64) bool { return row[col] != 0 })
	switch {
	case i < 0:
		return false
	case i > 0:
		g.swap(k, k+i)
		g.from[k], g.from[k+i] = g.from[k+i], g.from[k]
		g.det = g.neg(g.det)
	}
	return true
}

// clear makes the first row without a pivot 1 in a column, and all others 0. Ahead of this column it is 0.
func (g *image) clear(col int) {
	k := len(g.pivots)
	tail := g.grid[k][col:]
	g.det = g.mul(g.det, tail[0])
	g.scale(tail, g.inverse(tail[0]))
	for row := range g.others(k) {
		if c := row[col]; c != 0 {
			g.less(row[col:], tail, c)
		}
	}
}

// determinant returns the determinant of a square matrix.
func (g *image) determinant() uint64 {
	if len(g.pivots) < len(g.grid) {
		return 0
	}
	return g.det
}

// numbers returns the determinant, and its products with what the rows have in the free columns, for a matrix that has a pivot in each row.
func (g *image) numbers() []uint64 {
	out := []uint64{g.det}
	for _, row := range g.grid {
		for _, col := range g.free {
			out = append(out, g.mul(row[col], g.det))
		}
	}
	return out
}
