package qfac

import (
	"iter"

	"quadratrix/api"
)

// isModulus reports whether m is a prime number modulo which the exported functions compute.
func isModulus(m int) bool {
	return m <= api.MaxPrime && isPrime(m)
}

// isPrime reports whether n is a prime number; n is small.
func isPrime(n int) bool {
	for d := 2; d*d <= n; d++ {
		if n%d == 0 {
			return false
		}
	}
	return n > 1
}

// primes yields all prime numbers, ascending.
func primes() iter.Seq[int] {
	return func(yield func(int) bool) {
		for n := 2; ; n++ {
			if isPrime(n) && !yield(n) {
				return
			}
		}
	}
}
