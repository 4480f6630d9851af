package lin

import (
	"slices"

	"quadratrix/api"
	"quadratrix/num"
)

// lifted is a list of integers whose residues modulo some prime numbers are known. Each is the sum of digits, one for each prime number m, from -m/2 to m/2, which are multiplied by all prime numbers ahead of it: so digits that are not needed are 0, for integers below 0, too.
type lifted struct {
	primes []prime
	digits [][]int32 // for each prime number those of all integers
}

// add makes the residues modulo a further prime number known, and reports whether the integers are the same as without it.
func (l *lifted) add(p prime, residues []uint64) (same bool) {
	digits := make([]int32, len(residues))
	inverse := p.inverse(l.product(p))
	same = true
	for i, known := range l.values(p, len(residues)) {
		digit := p.mul(residues[i]+p.m-known, inverse)
		digits[i] = p.centred(digit)
		same = same && digit == 0
	}
	l.primes = append(l.primes, p)
	l.digits = append(l.digits, digits)
	return same
}

// product returns the product of the prime numbers modulo p.
func (l *lifted) product(p prime) uint64 {
	out := uint64(1)
	for _, q := range l.primes {
		out = p.mul(out, q.m)
	}
	return out
}

// values returns the n integers modulo p, as far as they are known.
func (l *lifted) values(p prime, n int) []uint64 {
	out := make([]uint64, n)
	for k, digits := range slices.Backward(l.digits) {
		by := p.rem(l.primes[k].m)
		for i, digit := range digits {
			out[i] = p.rem(out[i]*by + p.m + uint64(digit)) // a digit below 0 wraps around, and p.m takes it back
		}
	}
	return out
}

// centred returns the integer of the least absolute value with a residue.
func (p prime) centred(a uint64) int32 {
	if 2*a > p.m {
		return int32(int64(a) - int64(p.m))
	}
	return int32(a)
}

// integers returns the integers.
func (l *lifted) integers() ints {
	_, out := l.gather(0, len(l.primes))
	return out
}

// gather returns the product of the prime numbers from one index up to another, which is greater, and the integers that the digits there make.
func (l *lifted) gather(from, to int) (product api.Int, sums ints) {
	if to-from == 1 {
		for _, digit := range l.digits[from] {
			sums = append(sums, num.Of(int(digit)))
		}
		return num.Of(int(l.primes[from].m)), sums
	}
	half := (from + to) / 2
	product, low := l.gather(from, half)
	more, high := l.gather(half, to)
	for i, a := range low {
		sums = append(sums, num.Add(a, num.Mul(product, high[i])))
	}
	return num.Mul(product, more), sums
}
