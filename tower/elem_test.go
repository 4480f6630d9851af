package tower_test

import (
	"math"
	"testing"

	"quadratrix/api"
	"quadratrix/rat"
	"quadratrix/tower"
)

// P6.2
func TestCalculations(t *testing.T) {
	for _, a := range some() {
		x := a.elem()
		expect(t, tower.Neg(x), a.neg(), "Neg", x)
		for _, b := range some() {
			y := b.elem()
			expect(t, tower.Add(x, y), a.plus(b), "Add", x, y)
			expect(t, tower.Sub(x, y), a.plus(b.neg()), "Sub", x, y)
			expect(t, tower.Mul(x, y), a.times(b), "Mul", x, y)
			got, e := tower.Div(x, y)
			if b.isZero() {
				expectZero(t, got, e, api.ErrZero, "Div by 0")
				continue
			}
			expect(t, got, a.over(b), "Div", x, y)
			if e != api.OK {
				t.Error("Div", e)
			}
		}
	}
}

// P6.2: the examples of the document, and some that are alike.
func TestExamples(t *testing.T) {
	x, y := tower.Mono(1), tower.Mono(2)
	one := tower.Whole(1)
	quo := func(a, b api.Elem) api.Elem {
		q, e := tower.Div(a, b)
		if e != api.OK {
			t.Error(show(a), show(b), e)
		}
		return q
	}
	for i, c := range []struct {
		got  api.Elem
		want api.Elem
	}{
		{quo(tower.Sub(tower.Mul(x, x), one), tower.Sub(x, one)), level(1, "1,1", "1")},
		{tower.Sub(x, x), tower.Whole(0)},
		{quo(one, tower.Mul(tower.Whole(2), x)), level(1, "1/2", "0,1")},
		{quo(tower.Mul(y, x), y), x},
		{quo(y, tower.Mul(y, x)), level(1, "1", "0,1")},
		{quo(tower.Add(y, x), tower.Add(tower.Mul(x, y), one)), level(2, "1,1/x", "1/x,1")},
		{tower.Add(quo(one, y), quo(one, x)), level(2, "1,1/x", "0,1")},
		{tower.Mul(tower.Add(x, y), tower.Sub(x, y)), level(2, "x^2,0,-1", "1")},
		{tower.Add(tower.Mul(x, y), tower.Mul(tower.Neg(x), y)), tower.Whole(0)},
		{tower.Add(y, tower.Sub(one, y)), one},
		{quo(tower.Mul(tower.Mono(12), x), tower.Mul(tower.Mono(12), tower.Mono(11))), level(11, "x", "0,1")},
	} {
		if !isSame(c.got, c.want) {
			t.Error(i, show(c.got), show(c.want))
		}
	}
}

// P6.2
func TestPow(t *testing.T) {
	for _, a := range some() {
		x := a.elem()
		want := number(1, 1)
		for k := range 5 {
			got, e := tower.Pow(x, k)
			expect(t, got, want, "Pow", x)
			if e != api.OK {
				t.Error(show(x), k, e)
			}
			got, e = tower.Pow(x, -k)
			if a.isZero() && k > 0 {
				expectZero(t, got, e, api.ErrZero, "a power of 0")
			} else if expect(t, got, number(1, 1).over(want), "Pow", x); e != api.OK {
				t.Error(show(x), -k, e)
			}
			if a.level > 2 && k == 2 {
				break // to check all of them by naive calculation would take long
			}
			want = want.times(a)
		}
	}
	for _, k := range []int{1001, -1001, math.MaxInt, math.MinInt} {
		for _, s := range []string{"0", "1", "x", "1/(x+t)"} {
			got, e := tower.Pow(elem(s), k)
			expectZero(t, got, e, api.ErrArg, "Pow")
		}
	}
	for _, k := range []int{-1, -1000} {
		got, e := tower.Pow(tower.Whole(0), k)
		expectZero(t, got, e, api.ErrZero, "Pow")
	}
	for _, k := range []int{1, 1000} {
		if got, e := tower.Pow(tower.Whole(0), k); !isSame(got, tower.Whole(0)) || e != api.OK {
			t.Error(k, show(got), e)
		}
	}
}

// P6.2: high powers, whose values are those of the number.
func TestHighPowers(t *testing.T) {
	p := point("2 -1/3")
	for _, s := range []string{"2", "-2/3", "x", "x+1", "(x+1)/(3*x-2)", "1/x", "x+t", "(t-1/x)/t"} {
		for _, k := range []int{61, -60, 200} {
			a, e := tower.Pow(elem(s), k)
			v, e1 := tower.At(a, p)
			w, e2 := tower.At(elem(s), p)
			if want, _ := rat.Pow(w, k); e != api.OK || e1 != api.OK || e2 != api.OK || rat.Cmp(v, want) != 0 || !tower.Is(a) {
				t.Error(s, k, e, e1, e2)
			}
		}
	}
	for _, k := range []int{1000, -1000} {
		a, e := tower.Pow(elem("x^2/3"), k)
		if e != api.OK || len(a.Num)+len(a.Den) != 2002 || !tower.Is(a) {
			t.Error(k, e)
		}
	}
	long, _ := tower.Pow(tower.Whole(3), 1000)
	if a, e := tower.Pow(long, 1000); e != api.OK || len(a.Q.N.Abs) != (1584962+31)/32 {
		t.Error("a long number", e, len(a.Q.N.Abs))
	}
}

// some pairs and triples of elements; the others would say little more.
func triples(f func(a, b, c api.Elem)) {
	list := some()
	for i := range list {
		for k := range list {
			if (i+k)%3 == 0 {
				f(list[i].elem(), list[k].elem(), list[(2*i+5*k)%len(list)].elem())
			}
		}
	}
}

// P6.3
func TestField(t *testing.T) {
	zero, one := tower.Whole(0), tower.Whole(1)
	equal := func(law string, a, b api.Elem) {
		t.Helper()
		if !tower.Same(a, b) || !tower.Is(a) {
			t.Error(law, show(a), show(b))
		}
	}
	triples(func(a, b, c api.Elem) {
		equal("a + b = b + a", tower.Add(a, b), tower.Add(b, a))
		equal("a b = b a", tower.Mul(a, b), tower.Mul(b, a))
		equal("(a + b) + c = a + (b + c)", tower.Add(tower.Add(a, b), c), tower.Add(a, tower.Add(b, c)))
		equal("(a b) c = a (b c)", tower.Mul(tower.Mul(a, b), c), tower.Mul(a, tower.Mul(b, c)))
		equal("a (b + c) = a b + a c", tower.Mul(a, tower.Add(b, c)), tower.Add(tower.Mul(a, b), tower.Mul(a, c)))
		equal("a + 0 = a", tower.Add(a, zero), a)
		equal("1 a = a", tower.Mul(one, a), a)
		equal("0 a = 0", tower.Mul(zero, a), zero)
		equal("a - a = 0", tower.Sub(a, a), zero)
		equal("a + (-a) = 0", tower.Add(a, tower.Neg(a)), zero)
		equal("a - b + b = a", tower.Add(tower.Sub(a, b), b), a)
		if !tower.IsZero(b) {
			q, e := tower.Div(a, b)
			equal("a / b b = a", tower.Mul(q, b), a)
			p, e1 := tower.Div(tower.Mul(a, b), b)
			equal("a b / b = a", p, a)
			if e != api.OK || e1 != api.OK {
				t.Error(e, e1)
			}
		}
	})
}

// P6.4
func TestLawsOfValues(t *testing.T) {
	points := [][]api.Rat{point("1 2 3 4 5 6 7 8 9 10 11 12"), point("-1/2 1/3 5 0 1 1 -4 1 1 1 1 7/2"), point("0 0 0 0 0 0 0 0 0 0 0 0"), point("1 1 1 1 1 1 1 1 1 1 1 1")}
	triples(func(a, b, _ api.Elem) {
		for _, p := range points {
			v, e := tower.At(a, p)
			w, e1 := tower.At(b, p)
			if e != api.OK || e1 != api.OK {
				continue
			}
			hold := func(what string, c api.Elem, want api.Rat) {
				t.Helper()
				if got, e := tower.At(c, p); e != api.OK || rat.Cmp(got, want) != 0 {
					t.Error(what, show(a), show(b), rat.Print(got), rat.Print(want), e)
				}
			}
			hold("sum", tower.Add(a, b), rat.Add(v, w))
			hold("difference", tower.Sub(a, b), rat.Sub(v, w))
			hold("product", tower.Mul(a, b), rat.Mul(v, w))
			if rat.Sign(w) == 0 {
				continue
			}
			q, _ := tower.Div(a, b)
			if got, e := tower.At(q, p); e == api.OK {
				if want, _ := rat.Div(v, w); rat.Cmp(got, want) != 0 {
					t.Error("quotient", show(a), show(b), rat.Print(got), rat.Print(want))
				}
			}
		}
	})
}

// P6.2
func TestAt(t *testing.T) {
	for _, x := range []struct {
		elem, point, want string
		e                 api.Errno
	}{
		{"x/(x+1)", "1", "1/2", api.OK}, {"x/(x+1)", "-1", "", api.ErrZero}, {"t", "1", "", api.ErrArg}, {"5/3", "", "5/3", api.OK}, {"0", "", "0", api.OK}, {"x", "", "", api.ErrArg}, {"x", "7 8", "7", api.OK}, {"t", "7 8", "8", api.OK},
		{"t/x", "0 1", "", api.ErrZero}, {"t/x", "2 3", "3/2", api.OK}, {"t/x", "0", "", api.ErrArg}, {"(t+1/x)/(t-1/(x-1))", "2 1", "", api.ErrZero}, {"(t+1/x)/(t-1/(x-1))", "2 5", "11/8", api.OK}, {"(t+1/x)/(t-1/(x-1))", "0 5", "", api.ErrZero}, {"(t+1/x)/(t-1/(x-1))", "1 5", "", api.ErrZero}, {"1/(t-x)", "1", "", api.ErrArg},
		{"t5*x", "2 0 0 0 -1/3", "-2/3", api.OK}, {"t5*x", "2 0 0 0", "", api.ErrArg}, {"t5/x", "0 0 0 0", "", api.ErrArg}, {"x^3-2*x+1", "-1/2", "15/8", api.OK}, {"u*(t/(x-3)+1)", "3 1 0", "", api.ErrZero},
	} {
		got, e := tower.At(elem(x.elem), point(x.point))
		if e != x.e || e != api.OK && (len(got.N.Abs) > 0 || len(got.D.Abs) > 0) || e == api.OK && rat.Print(got) != x.want {
			t.Error(x, got, e)
		}
	}
}
