package tower_test

import (
	"math"
	"testing"

	"quadratrix/api"
	"quadratrix/num"
	"quadratrix/rat"
	"quadratrix/tower"
)

// level returns an element with these fields, valid or not.
func level(n int, num, den string) api.Elem {
	return api.Elem{Level: n, Num: poly(num), Den: poly(den)}
}

// numbers returns rational numbers that are not canonical.
func numbers() []api.Rat {
	one, two := num.Of(1), num.Of(2)
	return []api.Rat{
		{}, {N: one}, {D: one, N: api.Int{Neg: true}}, {N: two, D: two}, {N: two, D: num.Of(4)}, {N: one, D: num.Of(-1)}, {D: two},
		{N: api.Int{Abs: []uint32{1, 0}}, D: one}, {N: one, D: api.Int{Abs: []uint32{1, 0}}}, {N: one, D: api.Int{Abs: []uint32{0}}}, {N: api.Int{Abs: []uint32{0}}, D: one},
	}
}

// invalid returns elements that are not valid.
func invalid() []api.Elem {
	x, one := tower.Mono(1), tower.Whole(1)
	out := []api.Elem{
		{Level: 1}, {Level: -1}, {Level: math.MinInt}, {Level: -1, Q: rat.Whole(num.Of(1))},
		{Q: one.Q, Num: poly("1")}, {Q: one.Q, Den: poly("1")}, {Q: one.Q, Num: poly("0,1"), Den: poly("1")},
		level(1, "0,1", ""), level(1, "", "1"), level(1, "", "0,1"), level(1, "0,1", "2"), level(1, "0,2", "2"), level(1, "1", "0,2"), level(1, "0,1", "0"), level(1, "0,1", "1,0"),
		level(1, "3", "1"), level(1, "0,1,0", "1"), level(1, "0", "1"), level(1, "0", "0,1"), level(1, "1,0", "0,1"), level(1, "0,1", "0,1"), level(1, "-1,0,1", "1,1"), level(1, "0,1", "0,0,1"), level(1, "2,2", "1,1"),
		level(1, "0,x", "1"), level(1, "0,t", "1"), level(1, "0,1", "x,1"), level(1, "x", "0,1"),
		level(2, "x", "1"), level(2, "0,t", "1"), level(2, "0,1", "x"), level(2, "-x^2,0,1", "x,1"), level(2, "x,1", "1,1/x"), level(2, "x^2+x, x+1", "x,1"), level(3, "t,1", "t^2,2*t,1"),
		level(13, "0,1", "1"), level(math.MaxInt, "0,1", "1"), level(13, "0,t12", "1"), level(math.MinInt, "0,1", "1"), level(-1, "0,1", "1"), level(0, "0,1", "1"),
		{Level: 1, Q: one.Q, Num: x.Num, Den: x.Den}, {Level: 1, Q: api.Rat{N: api.Int{Neg: true}}, Num: x.Num, Den: x.Den}, {Level: 1, Q: rat.Whole(api.Int{}), Num: x.Num, Den: x.Den},
		{Level: 2, Num: []api.Elem{{Level: 1}, one}, Den: poly("1")}, {Level: 2, Num: []api.Elem{{Level: -1}, one}, Den: poly("1")}, {Level: 2, Num: []api.Elem{one, one}, Den: []api.Elem{level(1, "2", "2,2"), one}},
		{Level: 3, Num: []api.Elem{tower.Whole(0), {Level: 2, Num: []api.Elem{x}, Den: poly("1")}}, Den: poly("1")},
	}
	for _, q := range numbers() {
		e := api.Elem{Q: q}
		out = append(out, e, api.Elem{Level: 1, Num: []api.Elem{e, one}, Den: poly("1")}, api.Elem{Level: 1, Num: []api.Elem{one, e}, Den: poly("1")}, api.Elem{Level: 2, Num: x.Num, Den: []api.Elem{e, one}}, api.Elem{Level: 4, Num: []api.Elem{one, {Level: 1, Num: []api.Elem{e, one}, Den: poly("1")}}, Den: poly("1")})
	}
	return out
}

// P6.1
func TestIs(t *testing.T) {
	for _, a := range some() {
		if e := a.elem(); !tower.Is(e) {
			t.Error("not valid:", show(e))
		}
	}
	x := tower.Mono(1)
	x.Q = api.Rat{N: api.Int{Abs: []uint32{}}}
	if !tower.Is(x) || !tower.Is(api.Elem{Q: rat.Whole(num.Of(3)), Num: []api.Elem{}, Den: []api.Elem{}}) {
		t.Error("empty lists that are not nil")
	}
	for i, e := range invalid() {
		if tower.Is(e) {
			t.Error(i, "valid:", show(e))
		}
	}
}

// P6.1: whether an element is valid depends on a common divisor, also in many monomials.
func TestIsCoprime(t *testing.T) {
	c := chance(3)
	for i := range 60 {
		n := 1 + i%3
		p, q := c.some(n, 4-n), naiveMonic(c.some(n, 4-n))
		e := api.Elem{Level: n, Num: elems(p), Den: elems(q)}
		want := len(naiveGcd(p, q)) == 1 && len(p)+len(q) > 2
		if tower.Is(e) != want {
			t.Error(show(e), !want)
		}
		g := naiveMonic(c.some(n, 2))
		e = api.Elem{Level: n, Num: elems(naiveMul(p, g)), Den: elems(naiveMul(q, g))}
		if tower.Is(e) && len(g) > 1 {
			t.Error("common divisor:", show(e))
		}
	}
}

// P6.1
func TestIsPoly(t *testing.T) {
	for _, x := range []struct {
		n    int
		list string
		want bool
	}{
		{1, "", true}, {12, "", true}, {0, "", false}, {13, "", false}, {-1, "", false}, {math.MaxInt, "", false}, {math.MinInt, "", false},
		{1, "0,1", true}, {1, "1,0", false}, {1, "0", false}, {1, "5", true}, {1, "x", false}, {2, "x", true}, {2, "x,t", false}, {2, "t,x", false}, {3, "t,x,0,1/t", true}, {3, "u", false}, {12, "t11/(t10+1),1", true}, {12, "t12", false}, {0, "1", false}, {13, "1", false}, {13, "t12", false}, {-3, "1", false}, {2, "0,0", false},
	} {
		if tower.IsPoly(x.n, poly(x.list)) != x.want {
			t.Error(x)
		}
	}
	for i, e := range invalid() {
		if tower.IsPoly(12, []api.Elem{e, tower.Whole(1)}) || tower.IsPoly(12, []api.Elem{tower.Whole(1), e}) || tower.IsPoly(12, []api.Elem{e}) {
			t.Error(i, show(e))
		}
	}
	for n := 1; n <= 3; n++ {
		for _, p := range lists(n) {
			if !tower.IsPoly(n, elems(p)) || n > 1 && tower.IsPoly(1, elems(append([]naive{mono(n - 1)}, p...))) {
				t.Error(n, showPoly(elems(p)))
			}
		}
	}
}

// P6.1
func TestSame(t *testing.T) {
	var list []api.Elem
	for _, a := range some()[:29] {
		list = append(list, a.elem())
	}
	list = append(list, invalid()...)
	for i, a := range list {
		for k, b := range list {
			if tower.Same(a, b) != isSame(a, b) || i == k && !tower.Same(a, b) {
				t.Error(show(a), show(b))
			}
			if got := tower.SamePoly([]api.Elem{a, b}, []api.Elem{b, a}); got != isSame(a, b) {
				t.Error("lists of", show(a), show(b))
			}
		}
	}
	one := tower.Whole(1)
	if tower.SamePoly([]api.Elem{one}, nil) || tower.SamePoly(nil, []api.Elem{one}) || tower.SamePoly([]api.Elem{one}, []api.Elem{one, one}) {
		t.Error("lengths")
	}
	if !tower.SamePoly(nil, []api.Elem{}) || !tower.Same(api.Elem{}, api.Elem{Num: []api.Elem{}, Den: []api.Elem{}, Q: api.Rat{N: api.Int{Abs: []uint32{}}}}) {
		t.Error("nil and empty lists")
	}
	deep, other := one, one
	for range 1 << 16 {
		deep, other = api.Elem{Level: 1, Num: []api.Elem{deep}}, api.Elem{Level: 1, Num: []api.Elem{other}}
	}
	if !tower.Same(deep, other) || tower.Same(deep, deep.Num[0]) || tower.Is(deep) {
		t.Error("deep data")
	}
}

// P6.2
func TestMakers(t *testing.T) {
	for _, k := range []int{0, 1, -1, 2, 77, -123456789, math.MaxInt, math.MinInt} {
		if e := tower.Whole(k); !isSame(e, number(int64(k), 1).elem()) || tower.IsZero(e) != (k == 0) {
			t.Error(k, show(e))
		}
	}
	for _, s := range []string{"0", "1/2", "-7/3", "123456789012345678901234567891/2"} {
		q := point(s)[0]
		if e := tower.Rat(q); e.Level != 0 || !sameInt(e.Q.N, q.N) || !sameInt(e.Q.D, q.D) || len(e.Num)+len(e.Den) > 0 {
			t.Error(s, show(e))
		}
	}
	for n := 1; n <= 12; n++ {
		if e := tower.Mono(n); !isSame(e, level(n, "0,1", "1")) || !tower.Is(e) {
			t.Error(n, show(e))
		}
	}
	for _, a := range some() {
		if tower.IsZero(a.elem()) != a.isZero() {
			t.Error(show(a.elem()))
		}
	}
	if e := tower.Whole(2); e.Level != 0 || !sameInt(e.Q.N, num.Of(2)) || !sameInt(e.Q.D, num.Of(1)) {
		t.Error(show(e))
	}
}
