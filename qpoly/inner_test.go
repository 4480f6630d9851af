package qpoly

import (
	"math/big"
	"testing"

	"quadratrix/api"
	"quadratrix/num"
)

// Numbers near those from which searches begin, and the least ones that pass the test of Miller and Rabin to the bases 2; 2 and 3; 2, 3 and 5, without being prime.
func TestIsPrime(t *testing.T) {
	list := []uint64{2047, 1373653, 25326001}
	for i := range uint64(20000) {
		list = append(list, 2+i, longPrime+i)
	}
	for _, n := range list {
		if isPrime(n) != new(big.Int).SetUint64(n).ProbablyPrime(0) {
			t.Error(n)
		}
	}
}

func TestPrimes(t *testing.T) {
	want := []prime{2, 3, 5, 7, 11, 13, 17, 19, 23, 29}
	var got []prime
	for m := range primes(2) {
		if m > 30 {
			break
		}
		got = append(got, m)
	}
	if len(got) != len(want) {
		t.Fatal(got)
	}
	for i, m := range want {
		if got[i] != m {
			t.Error(got)
		}
	}
}

// integer returns a number with the words w.
func integer(neg bool, w ...uint32) api.Int {
	if neg {
		return num.Neg(fromWords(w))
	}
	return fromWords(w)
}

// Integers are found again from their residues, as long as twice their absolute value is below the product of the prime numbers.
func TestImages(t *testing.T) {
	want := ints{integer(false), integer(false, 1), integer(true, 1), integer(false, 0, 0, 1), integer(true, 0, 0, 1), integer(false, 5, 1<<32-1, 1<<32-1, 1), integer(true, 1<<32-1, 7, 3)}
	for _, n := range []int{5, 6, 7, 12, 31} {
		var l images
		for m := range primes(longPrime) {
			if len(l.primes) == n {
				break
			}
			l.add(m, each(want, func(_ int, a api.Int) uint64 { return m.residue(a) }))
		}
		for i, a := range l.integers() {
			if num.Cmp(a, want[i]) != 0 || !num.Is(a) {
				t.Error(n, i, a, want[i])
			}
		}
	}
	var l images
	l.add(7, []uint64{0, 1, 3, 4, 6})
	for i, a := range l.integers() {
		if num.Cmp(a, num.Of([]int{0, 1, 3, -3, -1}[i])) != 0 {
			t.Error(i, a)
		}
	}
}

// A product is the same term by term and by way of long integers.
func TestPack(t *testing.T) {
	for n := 1; n < 20; n++ {
		var p, q ints
		for i := range n {
			p = append(p, integer(i%3 == 0, uint32(i), 1<<32-1))
			q = append(q, integer(i%2 == 0, 1<<32-1, 1<<31, uint32(i%4)))
		}
		for _, x := range [][2]ints{{p, q}, {q, p}, {p, p}, {q, p[:1]}, {q, q}} {
			width := blockWords(x[0], x[1])
			got := unpack(num.Mul(pack(x[0], width), pack(x[1], width)), len(x[0])+len(x[1])-1, width)
			for i, a := range byTerms(x[0], x[1]) {
				if num.Cmp(a, got[i]) != 0 || !num.Is(got[i]) {
					t.Error(n, i, a, got[i])
				}
			}
		}
	}
}
