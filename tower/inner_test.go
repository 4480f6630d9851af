package tower

import (
	"math"
	"math/big"
	"math/bits"
	"slices"
	"testing"

	"quadratrix/api"
	"quadratrix/num"
)

func TestPrimes(t *testing.T) {
	last := uint64(leastPrime)
	for p := range primes(leastPrime) {
		for n := last; n <= p.m; n++ {
			if new(big.Int).SetUint64(n).ProbablyPrime(0) != (n == p.m) {
				t.Error(n, p.m)
			}
		}
		if last = p.m + 1; last > leastPrime+5000 {
			break
		}
	}
	// To the base 2, to 2 and 3, and to 2, 3 and 5 they pass the test of Miller and Rabin, but they are not prime.
	for _, n := range []uint64{1078467589, 1168256953, 1157839381} {
		if newPrime(n).isPrime() || new(big.Int).SetUint64(n).ProbablyPrime(0) {
			t.Error(n)
		}
	}
}

// Remainders by way of the rate, for numbers at which the quotient changes.
func TestRem(t *testing.T) {
	for _, m := range []uint64{1 << 30, 1<<30 + 3, 1<<31 - 1, 1 << 31, 1518500250} {
		p := newPrime(m)
		for _, quo := range []uint64{0, 1, 2, m - 1, m, m + 1, 1 << 32, math.MaxUint64/m - 1, math.MaxUint64 / m} {
			for _, d := range []uint64{0, 1, m / 2, m - 1} {
				high, _ := bits.Mul64(quo, m)
				a := quo*m + d
				if high == 0 && a >= quo*m && p.rem(a) != d {
					t.Error(m, a, p.rem(a))
				}
			}
		}
		if p.rem(math.MaxUint64) != math.MaxUint64%m {
			t.Error(m)
		}
	}
}

func TestResidues(t *testing.T) {
	p := newPrime(1<<30 + 3)
	for _, a := range []api.Int{{}, num.Of(1), num.Of(-1), num.Of(1<<30 + 3), num.Of(-(1<<30 + 3)), num.Of(math.MinInt), {Abs: []uint32{1, 2, 1<<32 - 1}}, {Neg: true, Abs: []uint32{0, 0, 0, 1 << 31}}} {
		whole, ok := new(big.Int).SetString(num.Print(a), 10)
		want := new(big.Int).Mod(whole, new(big.Int).SetUint64(p.m)).Uint64()
		r := p.residue(a)
		if !ok || r != want {
			t.Error(num.Print(a), r, want)
		}
		c := p.centred(r)
		if back := p.residue(num.Of(c)); back != r || 2*uint64(max(c, -c)) > p.m {
			t.Error(num.Print(a), c)
		}
		if r > 0 && p.mul(r, p.inverse(r)) != 1 {
			t.Error("inverse", r)
		}
	}
}

func random(s *seed, n int) residues {
	out := make(residues, n)
	for i := range out {
		out[i] = 1 + s.next()%1000000
	}
	return out
}

// Polynomials modulo a prime number: products, quotients, remainders and divisors.
func TestPolynomialsModulo(t *testing.T) {
	p := newPrime(1<<30 + 3)
	var s seed
	for i := range 8 {
		for k := range 6 {
			a, b, g := random(&s, i), random(&s, 1+k), random(&s, 1+(i+k)%4)
			ag, bg := p.product(a, g), p.product(b, g)
			if got := p.quotient(ag, g); !slices.Equal(got.trimmed(), a.trimmed()) {
				t.Error("quotient", a, g, got)
			}
			if got := p.value(ag, 77); got != p.mul(p.value(a, 77), p.value(g, 77)) {
				t.Error("value", a, g)
			}
			if rem := p.remainder(slices.Clone(ag), g); len(rem) > 0 {
				t.Error("remainder", ag, g, rem)
			}
			want := p.scale(g, p.inverse(g[g.deg()]))
			if i == 0 {
				want = p.scale(bg, p.inverse(bg[bg.deg()]))
			}
			if got := p.divisor(ag, bg); !slices.Equal(got, want) {
				t.Error("divisor", a, b, g, got)
			}
			if got := p.divisor(bg, ag); !slices.Equal(got, want) {
				t.Error("divisor", b, a, g, got)
			}
		}
	}
	if got := p.divisor(nil, nil); len(got) != 0 {
		t.Error(got)
	}
	at := []uint64{5, 0, 7, 1 << 29}
	for i, one := range p.basis(at) {
		for k, x := range at {
			if v := p.value(one, x); (v == 1) != (i == k) || v > 1 {
				t.Error(i, k, v)
			}
		}
	}
}

// in returns the sum of the terms c t_1^i t_2^k t_3^l, for rows c, i, k, l.
func in(rows ...[4]int) multi {
	out := multi{}
	for _, r := range rows {
		term := integer(num.Of(r[0]))
		for n, k := range r[1:] {
			if k > 0 {
				term = term.times(joined(n+1, poly[multi]{{}, unity()}).power(k))
			}
		}
		out = out.plus(term)
	}
	return out
}

func TestMultis(t *testing.T) {
	a, b := in([4]int{3, 2, 0, 1}, [4]int{-1, 0, 4, 0}, [4]int{5, 0, 0, 0}), in([4]int{2, 1, 1, 0}, [4]int{-6, 0, 0, 2})
	if d := a.degrees(); d != (degrees{1: 2, 2: 4, 3: 1}) {
		t.Error(d)
	}
	if a.minus(a).isZero() != true || !a.minus(b).plus(b).same(a) || !b.minus(a).same(a.minus(b).negated()) {
		t.Error("sums")
	}
	if c := b.content(api.Int{}); num.Cmp(c, num.Of(2)) != 0 || num.Cmp(b.lead(), num.Of(-6)) != 0 {
		t.Error(c, b.lead())
	}
	ab := a.times(b)
	if q, ok := ab.quotient(b); !ok || !q.same(a) {
		t.Error("quotient")
	}
	for _, x := range [][2]multi{{ab.plus(unity()), b}, {a, b}, {unity(), a}, {a, integer(num.Of(2))}, {b, ab}, {in([4]int{1, 0, 0, 1}), in([4]int{1, 0, 1, 0}, [4]int{1, 0, 0, 0})}, {in([4]int{5, 0, 0, 2}, [4]int{1, 1, 0, 1}), in([4]int{1, 1, 0, 1})}} {
		if q, ok := x[0].quotient(x[1]); ok || !q.isZero() {
			t.Error("no quotient", q)
		}
	}
	if q, ok := (multi{}).quotient(a); !ok || !q.isZero() {
		t.Error("0 / a")
	}
	for k := 1; k < 8; k++ {
		want := unity()
		for range k {
			want = want.times(a)
		}
		if !a.power(k).same(want) {
			t.Error("power", k)
		}
	}
	if v := a.at(map[int]multi{1: integer(num.Of(2)), 3: integer(num.Of(-1))}); !v.same(in([4]int{-1, 0, 4, 0}, [4]int{-7, 0, 0, 0})) {
		t.Error(v)
	}
}

// What two polynomials have in common: the factors are what they are made of, up to signs.
func TestCommon(t *testing.T) {
	list := []multi{unity(), integer(num.Of(-6)), integer(num.Of(4)), in([4]int{1, 1, 0, 0}), in([4]int{-2, 0, 1, 0}, [4]int{4, 0, 0, 0}), in([4]int{1, 0, 1, 1}, [4]int{-1, 1, 0, 0}), in([4]int{3, 2, 0, 0}, [4]int{-1, 0, 0, 3}), in([4]int{1, 1, 1, 1}, [4]int{1, 0, 0, 0}), in([4]int{1, 1, 0, 0}, [4]int{1, 0, 0, 0})}
	for _, a := range list {
		for _, b := range list {
			for _, g := range list {
				s := common(a.times(g), b.times(g))
				rest := common(s.left, s.right)
				if !s.by.times(s.left).same(a.times(g)) || !s.by.times(s.right).same(b.times(g)) || !rest.by.isOne() || s.by.lead().Neg {
					t.Error(a, b, g, s)
				}
				if _, ok := s.by.quotient(g); !ok {
					t.Error("no multiple of the common factor", a, b, g, s.by)
				}
			}
		}
	}
	for _, a := range list {
		for _, s := range []shared{common(a, multi{}), common(multi{}, a)} {
			if !s.by.same(a.upright()) || !s.by.times(s.left).plus(s.by.times(s.right)).same(a) {
				t.Error("with 0", a, s)
			}
		}
	}
}

// The bounds of the degrees of a divisor are those of the divisor, and no less.
func TestBounds(t *testing.T) {
	a, b := in([4]int{1, 1, 2, 0}, [4]int{3, 0, 0, 1}), in([4]int{1, 0, 1, 0}, [4]int{-1, 3, 0, 0})
	for _, g := range []multi{in([4]int{1, 2, 0, 0}, [4]int{1, 0, 0, 1}), in([4]int{1, 1, 3, 1}), in([4]int{1, 0, 0, 1}, [4]int{7, 0, 0, 0}), in([4]int{1<<30 + 3, 1, 0, 0}, [4]int{1, 0, 2, 0})} {
		s := &search{left: a.times(g), right: b.times(g)}
		s.leftDegrees, s.rightDegrees = s.left.degrees(), s.right.degrees()
		s.bound()
		if s.most != g.degrees() {
			t.Error(g, s.most)
		}
	}
	if s := (&search{leftDegrees: degrees{1: 2, 7: 1}, rightDegrees: degrees{1: 1, 2: 5}, most: degrees{1: 1}}); !slices.Equal(s.variables(), []int{1, 2, 7}) || !slices.Equal(s.others(), []int{2, 7}) {
		t.Error(s.variables(), s.others())
	}
}

// Divisors modulo a prime number, by way of values: also of polynomials with contents in the first variable.
func TestTrees(t *testing.T) {
	f := field{prime: newPrime(1<<30 + 3), vars: []int{1, 2, 3}, seed: new(seed)}
	a, b := in([4]int{1, 1, 2, 0}, [4]int{3, 0, 0, 1}), in([4]int{1, 0, 1, 0}, [4]int{-1, 3, 0, 2})
	for _, g := range []multi{unity(), in([4]int{1, 1, 0, 0}), in([4]int{1, 2, 0, 0}, [4]int{1, 0, 0, 0}), in([4]int{1, 1, 0, 2}, [4]int{1, 0, 1, 0}), in([4]int{5, 1, 3, 1}, [4]int{2, 2, 0, 0}), in([4]int{1, 0, 2, 0}, [4]int{1, 0, 0, 0}).times(in([4]int{1, 2, 0, 0}, [4]int{-3, 0, 0, 0}))} {
		f.most = g.degrees()
		got := f.gcd(f.image(a.times(g), 3), f.image(b.times(g), 3), 3)
		want := f.monic(f.image(g, 3))
		var l lifted
		l.add(f, got)
		var m lifted
		m.add(f, want)
		if !l.sum.same(m.sum) || !slices.Equal(got.exponents(), want.exponents()) {
			t.Error(g, l.sum, m.sum)
		}
	}
	one := f.image(a, 3)
	for i, x := range []uint64{0, 1, 12345} {
		points := []uint64{x, x + 7, 5*x + 1}
		for k := range 3 {
			line := f.along(one, k, points, 3)
			values := map[int]multi{}
			for n, v := range points {
				if n != k {
					values[n+1] = integer(num.Of(int(v)))
				}
			}
			var want residues
			for _, c := range a.at(values).powers(k + 1) {
				want = append(want, f.residue(c.n))
			}
			if !slices.Equal(line, want.trimmed()) {
				t.Error(i, k, line, want)
			}
		}
	}
}

// Numbers at which a leading coefficient becomes 0 tell nothing: there, the divisor t_1 t_2 - x t_2 + 1 seems to be 1.
func TestVanishingLeads(t *testing.T) {
	f := field{prime: newPrime(1<<30 + 3), vars: []int{1, 2}, most: degrees{1: 1, 2: 1}, seed: new(seed)}
	first := new(seed)
	x := int(f.rem(first.next()))
	g := in([4]int{1, 1, 1, 0}, [4]int{-x, 0, 1, 0}, [4]int{1, 0, 0, 0})
	a, b := g.times(in([4]int{1, 0, 1, 0}, [4]int{3, 0, 0, 0})), g.times(in([4]int{1, 0, 1, 0}, [4]int{5, 1, 0, 0}))
	if got := f.gcd(f.image(a, 2), f.image(b, 2), 2); !slices.Equal(got.exponents(), []int{1, 1}) {
		t.Error(got)
	}
}

// Integers in place of monomials at which both polynomials become 0, or have further divisors.
func TestOthers(t *testing.T) {
	var first seed
	x, y := int(first.next()%64), int(first.next()%64)
	g := in([4]int{1, 0, 1, 0}, [4]int{1, 0, 0, 0})
	s := search{left: g.times(in([4]int{1, 1, 0, 0}, [4]int{-x, 0, 0, 0})), right: g.times(in([4]int{1, 0, 0, 1}, [4]int{-y, 0, 0, 0}))}
	if got := s.withoutOthers([]int{1, 3}); !got.by.same(g) || !got.left.times(g).same(s.left) || !got.right.times(g).same(s.right) {
		t.Error(got)
	}
	even, odd := in([4]int{1, 2, 0, 0}, [4]int{1, 1, 0, 0}), in([4]int{1, 0, 0, 2}, [4]int{1, 0, 0, 1})
	if got := common(g.times(even), g.times(odd)); !got.by.same(g) {
		t.Error(got)
	}
	all := unity()
	for k := range 64 {
		all = all.times(in([4]int{1, 1, 0, 0}, [4]int{-k, 0, 0, 0}))
	}
	more := in([4]int{1, 0, 1, 0})
	if got := common(g.times(more.plus(all)), g.times(more)); !got.by.same(g) {
		t.Error(got)
	}
}

// Of images with different highest terms those with the lower one are kept; digits that are not needed are 0.
func TestLifted(t *testing.T) {
	want := in([4]int{1 << 50, 2, 0, 0}, [4]int{-7, 0, 1, 0}, [4]int{-1 << 60, 0, 0, 1}, [4]int{3, 1, 1, 1})
	high := want.times(in([4]int{1, 1, 0, 0}, [4]int{5, 0, 0, 0}))
	var l lifted
	var done []bool
	for p := range primes(leastPrime) {
		f := field{prime: p, vars: []int{1, 2, 3}}
		a := want
		if k := len(done); k == 0 || k == 2 {
			a = high
		}
		done = append(done, l.add(f, f.image(a, 3)))
		if len(done) == 6 {
			break
		}
	}
	if !slices.Equal(done, []bool{true, true, false, false, false, true}) {
		t.Error(done)
	}
	if !l.sum.same(want) {
		t.Error(l.sum)
	}
}

// Values with different highest terms: those with the lower one are kept.
func TestValues(t *testing.T) {
	low, high := tree{residues: residues{1, 1}}, tree{residues: residues{1, 2, 1}}
	var v values
	v.add(1, high)
	v.add(2, low)
	v.add(3, high)
	v.add(4, low)
	if !slices.Equal(v.at, []uint64{2, 4}) || len(v.trees) != 2 || len(v.trees[0].residues) != 2 {
		t.Error(v)
	}
}

// A term that is missing in some of the values has the value 0 there.
func TestBlend(t *testing.T) {
	f := field{prime: newPrime(1<<30 + 3)}
	leaf := func(a ...uint64) tree { return tree{residues: a} }
	at := []uint64{4, 6}
	two := f.joined(values{at, []tree{leaf(1, 2, 3), leaf(1)}}, 2)
	three := f.joined(values{at, []tree{branches([]tree{leaf(1, 2, 3), leaf(0, 1)}), branches([]tree{leaf(1), leaf(0, 1)})}}, 3)
	for _, list := range [][]tree{two.list, three.list[0].list} {
		if len(list) != 3 || !slices.Equal(list[0].residues, residues{1}) {
			t.Fatal(list)
		}
		for i, want := range []uint64{2, 3} {
			if a := list[i+1].residues; f.value(a, 4) != want || f.value(a, 6) != 0 {
				t.Error(list)
			}
		}
	}
}

// Kronecker's products are the same as those term by term.
func TestProducts(t *testing.T) {
	var s seed
	for i := range 200 {
		p, q := make(poly[multi], 1+s.next()%20), make(poly[multi], 1+s.next()%20)
		for _, l := range []poly[multi]{p, q} {
			for k := range l {
				n := api.Int{Neg: s.next()%2 == 0}
				for range s.next() % 4 {
					n.Abs = append(n.Abs, 1<<32-1-uint32(s.next()%2*(1<<32-2)))
				}
				n.Neg = n.Neg && len(n.Abs) > 0
				l[k] = integer(n)
			}
			l[len(l)-1] = integer(num.Of(-1))
		}
		want, width := p.times(q), (sumBits(p, q)+wordBits)/wordBits
		if got := product(p, q); !slices.EqualFunc(got, want, multi.same) {
			t.Error(i, p, q, got)
		}
		if got := unpack(num.Mul(pack(p, width), pack(q, width)), len(p)+len(q)-1, width); !slices.EqualFunc(got, want, multi.same) {
			t.Error("packed", i, p, q, got)
		}
	}
}

// Products whose coefficients just fit into ints, or just do not.
func TestShortProducts(t *testing.T) {
	for terms := range 9 {
		for _, x := range [][2]int{{1<<31 - 1, 1<<31 - 1}, {1<<31 - 1, 1<<30 - 1}, {1<<31 - 1, 1<<29 - 1}, {1 << 31, 1<<31 - 1}, {1<<32 - 1, -(1<<32 - 1)}, {-(1<<30 - 1), 1<<30 - 1}, {1<<61 - 1, 1}, {math.MaxInt, 1}, {math.MinInt, -1}, {math.MaxInt, math.MinInt}} {
			var p, q poly[multi]
			for range terms + 1 {
				p, q = append(p, integer(num.Of(x[0]))), append(q, integer(num.Of(x[1])))
			}
			if got, want := product(p, q), p.times(q); !slices.EqualFunc(got, want, multi.same) {
				t.Error(terms, x, got, want)
			}
		}
	}
}

// A panic that is no error number is an error, too; work that does not panic has none.
func TestSafely(t *testing.T) {
	if n, e := safely(func() int { return 5 }); n != 5 || e != api.OK {
		t.Error(n, e)
	}
	if n, e := safely(func() int { panic(api.ErrZero) }); n != 0 || e != api.ErrZero {
		t.Error(n, e)
	}
	if n, e := safely(func() int { return []int{}[len(api.Tower{})] }); n != 0 || e != api.ErrArg {
		t.Error(n, e)
	}
	if operation('?') != nil {
		t.Error("an operation without a name")
	}
}
