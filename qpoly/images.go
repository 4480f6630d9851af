package qpoly

import (
	"quadratrix/api"
	"quadratrix/num"
)

// images are lists of integers, all of the same length, modulo different prime numbers.
type images struct {
	primes []prime
	lists  [][]uint64
}

func (l *images) add(m prime, list []uint64) {
	l.primes = append(l.primes, m)
	l.lists = append(l.lists, list)
}

func (l *images) clear() {
	l.primes, l.lists = nil, nil
}

// integers returns the integers of the least absolute values of which these are the images, which are not none. (With the product M of the prime numbers m, they are modulo M the sums of c M / m, where c modulo m is the image times the inverse of M / m.)
func (l *images) integers() ints {
	terms := make([][]uint64, len(l.primes))
	for i, m := range l.primes {
		terms[i] = m.scale(l.lists[i], m.inverse(l.others(i)))
	}
	product, sums := gather(l.primes, terms)
	return each(sums, func(_ int, a api.Int) api.Int { return centred(a, product) })
}

// others returns the product of all prime numbers but the one with the index i, modulo this one.
func (l *images) others(i int) uint64 {
	m, out := l.primes[i], uint64(1)
	for k, other := range l.primes {
		if k != i {
			out = m.mul(out, uint64(other)%uint64(m))
		}
	}
	return out
}

// gather returns the product M of prime numbers, and for each index the sum of the terms there, each times M / m.
func gather(list []prime, terms [][]uint64) (product api.Int, sums ints) {
	if len(list) == 1 {
		return num.Of(int(list[0])), each(terms[0], func(_ int, c uint64) api.Int { return num.Of(int(c)) })
	}
	half := len(list) / 2
	m, low := gather(list[:half], terms[:half])
	n, high := gather(list[half:], terms[half:])
	sums = merge(low, high, api.Int{}, func(a, b api.Int) api.Int {
		return num.Add(num.Mul(a, n), num.Mul(b, m))
	})
	return num.Mul(m, n), sums
}

// centred returns the integer of the least absolute value that differs from a by a multiple of m, which is above 0.
func centred(a, m api.Int) api.Int {
	_, r, _ := num.Div(a, m)
	if num.Cmp(num.Add(r, r), m) > 0 {
		return num.Sub(r, m)
	}
	return r
}
