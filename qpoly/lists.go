package qpoly

// The functions of this file handle the coefficients of all kinds of polynomials: rational numbers, integers, and residues.

// each returns the list of what f makes of the coefficients and their indices.
func each[T, S any](p []T, f func(i int, a T) S) []S {
	out := make([]S, len(p))
	for i, a := range p {
		out[i] = f(i, a)
	}
	return out
}

// merge returns the list of what f makes of the coefficients of p and q at each index, a coefficient behind the last one being zero.
func merge[T any](p, q []T, zero T, f func(a, b T) T) []T {
	out := make([]T, max(len(p), len(q)))
	for i := range out {
		a, b := zero, zero
		if i < len(p) {
			a = p[i]
		}
		if i < len(q) {
			b = q[i]
		}
		out[i] = f(a, b)
	}
	return out
}

// cut returns p without the coefficients at its end whose sign is 0.
func cut[T any](p []T, sign func(T) int) []T {
	n := len(p)
	for n > 0 && sign(p[n-1]) == 0 {
		n--
	}
	return p[:n]
}
