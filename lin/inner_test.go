package lin

import (
	"math"
	"math/big"
	"math/bits"
	"testing"

	"quadratrix/api"
	"quadratrix/num"
)

func TestPrimes(t *testing.T) {
	last := uint64(leastPrime)
	for p := range primes(leastPrime) {
		for n := last; n <= p.m; n++ {
			if new(big.Int).SetUint64(n).ProbablyPrime(0) != (n == p.m) {
				t.Error(n, p.m)
			}
		}
		if last = p.m + 1; last > leastPrime+5000 {
			break
		}
	}
	for p := range primes(1<<31 - 1) {
		if p.m != 1<<31-1 {
			t.Error(p.m)
		}
		break
	}
	// To the base 2, to 2 and 3, and to 2, 3 and 5 they pass the test of Miller and Rabin, but they are not prime.
	for _, n := range []uint64{1078467589, 1168256953, 1157839381} {
		if newPrime(n).isPrime() || new(big.Int).SetUint64(n).ProbablyPrime(0) {
			t.Error(n)
		}
	}
}

// Remainders by way of the rate, for numbers at which the quotient changes.
func TestRem(t *testing.T) {
	for _, m := range []uint64{1 << 30, 1<<30 + 3, 1<<31 - 1, 1 << 31, 1518500250} {
		p := newPrime(m)
		for _, quo := range []uint64{0, 1, 2, m - 1, m, m + 1, 1 << 32, math.MaxUint64/m - 1, math.MaxUint64 / m} {
			for _, d := range []uint64{0, 1, m / 2, m - 1} {
				high, _ := bits.Mul64(quo, m)
				a := quo*m + d
				if high == 0 && a >= quo*m && p.rem(a) != d {
					t.Error(m, a, p.rem(a))
				}
			}
		}
		if p.rem(math.MaxUint64) != math.MaxUint64%m {
			t.Error(m)
		}
	}
}

func TestResidues(t *testing.T) {
	p := newPrime(1<<30 + 3)
	for _, a := range []api.Int{{}, num.Of(1), num.Of(-1), num.Of(1<<30 + 3), num.Of(-(1<<30 + 3)), num.Of(math.MinInt), {Abs: []uint32{1, 2, 1<<32 - 1}}, {Neg: true, Abs: []uint32{0, 0, 0, 1 << 31}}} {
		_, r, _ := num.Div(a, num.Of(int(p.m)))
		if num.Cmp(num.Of(int(p.residue(a))), r) != 0 {
			t.Error(a, p.residue(a), r)
		}
	}
	for _, a := range []uint64{1, 2, 12345, p.m - 1} {
		if p.mul(a, p.inverse(a)) != 1 || (a+p.neg(a))%p.m != 0 {
			t.Error(a)
		}
	}
	if p.neg(0) != 0 {
		t.Error(p.neg(0))
	}
}

// power returns 2^n + d.
func power(n uint, d int) api.Int {
	out := api.Int{Abs: make([]uint32, n/32+1)}
	out.Abs[n/32] = 1 << (n % 32)
	return num.Add(out, num.Of(d))
}

// Integers are found again from their residues; once they are, further ones change nothing, and ahead of that the last one has.
func TestLifted(t *testing.T) {
	for _, n := range []uint{0, 1, 28, 29, 30, 31, 59, 60, 61, 200, 1000} {
		for _, a := range []api.Int{power(n, 0), power(n, 1), power(n, -1), num.Neg(power(n, 3))} {
			list := ints{a, num.Neg(a), {}, num.Of(-1)}
			var l lifted
			product := num.Of(1)
			for p := range primes(leastPrime) {
				enough := num.Cmp(num.Abs(num.Add(a, a)), product) < 0 // 2 |a| is below the product of the primes so far
				same := l.add(p, p.residues(list))
				if product = num.Mul(product, num.Of(int(p.m))); same != (enough && len(l.primes) > 1) {
					t.Fatal(n, a, len(l.primes), same)
				}
				if same {
					break
				}
			}
			for i, got := range l.integers() {
				if num.Cmp(got, list[i]) != 0 || !num.Is(got) {
					t.Error(n, got, list[i])
				}
			}
		}
	}
}

// A profile that a prime number shows wrongly, and numbers that are lifted too early, are noticed.
func TestGuess(t *testing.T) {
	p, next := newPrime(1<<30+3), newPrime(1<<30+7)
	of := func(n ...uint64) ints {
		var out ints
		for _, a := range n {
			out = append(out, num.Of(int(a)))
		}
		return out
	}
	both := num.Mul(num.Of(int(p.m)), num.Of(int(next.m)))
	for i, m := range []matrix{
		{2, []ints{of(p.m, 1)}},
		{2, []ints{of(1, 1), of(1, p.m+1)}},
		{2, []ints{of(1, 1), of(p.m, 0)}},
		{2, []ints{of(p.m, p.m)}},
		{1, []ints{of(p.m)}},
		{2, []ints{{num.Of(1), both}}},
	} {
		if m.guess(p).suits(m) {
			t.Error(i)
		}
		if q := newPrime(1<<31 - 1); !m.guess(q).suits(m) {
			t.Error(i)
		}
	}
}
