package qpoly_test

import (
	"testing"

	"quadratrix/api"
	"quadratrix/qpoly"
	"quadratrix/rat"
)

// P3.7
func TestSquarefreeExamples(t *testing.T) {
	for _, x := range [][3]string{
		{"0 0 -2 2", "2", "-1 1; 0 1"}, {"0 0 0 1", "1", "1; 1; 0 1"}, {"1/2 1/3", "1/3", "3/2 1"}, {"-1 0 1", "1", "-1 0 1"}, {"-1 -2 -1", "-1", "1; 1 1"},
		{"0 0 0 0 0 1 2 1", "1", "1; 1 1; 1; 1; 0 1"},
	} {
		c, l, e := qpoly.Squarefree(poly(x[0]))
		if !sameRat(c, read(x[1])) || !sameList(l, polys(x[2])) || e != api.OK {
			t.Error(x, rat.Print(c), show(l...), e)
		}
	}
	for _, s := range []string{"7", "-2/3"} {
		if c, l, e := qpoly.Squarefree(poly(s)); !sameRat(c, read(s)) || len(l) != 0 || e != api.OK {
			t.Error(s, c, l, e)
		}
	}
	if c, l, e := qpoly.Squarefree(nil); !isNothing(c) || len(l) != 0 || e != api.ErrZero {
		t.Error(c, l, e)
	}
}

// product returns the product of the parts, each with its multiplicity.
func product(c api.Rat, l [][]api.Rat) bigPoly {
	out := bigPoly{bigRat(c)}
	for i, part := range l {
		for range i + 1 {
			out = out.times(toBig(part))
		}
	}
	return out
}

// checkSquarefree checks the parts of p as they are defined.
func checkSquarefree(t *testing.T, p []api.Rat) {
	t.Helper()
	c, l, e := qpoly.Squarefree(p)
	if e != api.OK || !sameRat(c, p[len(p)-1]) || !same(product(c, l).list(), p) {
		t.Error("product", show(p), rat.Print(c), show(l...), e)
		return
	}
	if len(l) != cap(l) {
		t.Error("room behind the list")
	}
	for i, part := range l {
		a := toBig(part)
		if !qpoly.Is(part) || !same(a.monic().list(), part) || len(a.gcd(a.deriv())) != 1 {
			t.Error("part", i, show(p, part))
		}
		for _, other := range l[:i] {
			if len(a.gcd(toBig(other))) != 1 {
				t.Error("not coprime", show(p, part, other))
			}
		}
	}
	if len(l) > 0 && len(l[len(l)-1]) < 2 {
		t.Error("the last part is 1", show(p))
	}
}

// P3.7
func TestSquarefree(t *testing.T) {
	for _, p := range some() {
		if len(p) > 0 && len(p) < 16 {
			checkSquarefree(t, p)
		}
	}
	triples(func(p, q, r []api.Rat) {
		if len(p) == 0 || len(q) == 0 || len(r) == 0 || len(p) > 4 || len(q) > 4 || len(r) > 4 {
			return
		}
		checkSquarefree(t, qpoly.Mul(p, qpoly.Mul(pow(t, q, 2), pow(t, r, 4))))
	})
}

// P3.14
func TestLawsOfParts(t *testing.T) {
	triples(func(p, q, r []api.Rat) {
		if len(p) == 0 || len(q) == 0 || len(p) > 6 || len(q) > 6 {
			return
		}
		p = qpoly.Mul(pow(t, p, 1+len(r)%3), poly("1 1"))
		q = qpoly.Mul(pow(t, q, 1+len(r)/2), poly("0 0 3"))
		if g := qpoly.Gcd(p, q); qpoly.Deg(g) > 0 {
			return
		}
		c, l, e := qpoly.Squarefree(p)
		ok(t, e)
		d, m, e := qpoly.Squarefree(q)
		ok(t, e)
		f, n, e := qpoly.Squarefree(qpoly.Mul(p, q))
		if !sameRat(f, rat.Mul(c, d)) || len(n) != max(len(l), len(m)) || e != api.OK {
			t.Error(show(p, q), show(n...), e)
			return
		}
		for i, part := range n {
			want := poly("1")
			if i < len(l) {
				want = qpoly.Mul(want, l[i])
			}
			if i < len(m) {
				want = qpoly.Mul(want, m[i])
			}
			if !same(part, want) {
				t.Error(i, show(p, q, part, want))
			}
		}
	})
	for _, p := range some() {
		if len(p) == 0 {
			continue
		}
		_, l, e := qpoly.Squarefree(p)
		if (len(l) < 2) != same(qpoly.Gcd(p, qpoly.Deriv(p)), poly("1")) || e != api.OK {
			t.Error(show(p), show(l...), e)
		}
	}
}
