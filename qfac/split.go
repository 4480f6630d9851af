package qfac

// frobenius is the map that takes polynomials modulo p, which is squarefree and monic, to their power m: it is linear, and given by the powers of x to the exponents 0, m, 2 m and so on.
type frobenius[T integer] struct {
	*field[T]
	p    poly[T]
	rows []poly[T]
}

func newFrobenius[T integer](f *field[T], p poly[T]) *frobenius[T] {
	row := poly[T]{1}
	step := f.power(poly[T]{0, 1}, f.m, p)
	rows := make([]poly[T], p.deg())
	for i := range rows {
		rows[i] = row
		row = f.rem(f.mul(row, step), p)
	}
	return &frobenius[T]{f, p, rows}
}

// apply returns u to the power m, modulo p; the degree of u is less than that of p.
func (f *frobenius[T]) apply(u poly[T]) poly[T] {
	sums := make(poly[uint64], len(f.rows))
	for i, a := range u {
		f.rows[i].add(sums, uint64(a))
	}
	return f.reduce(sums)
}

// split returns the irreducible factors of q, which is a product of some of them, all of the same degree. Modulo each of them the trace of a power of x is a number; if these numbers are not all the same, the trace tells factors apart. For any two factors some power below the degree of q does.
func (f *frobenius[T]) split(q poly[T], degree, power int) []poly[T] {
	if q.deg() == degree {
		return []poly[T]{q}
	}
	trace := f.rem(f.trace(power, degree), q)
	if trace.deg() <= 0 {
		return f.split(q, degree, power+1)
	}
	part := f.part(q, trace)
	rest := f.quo(q, part)
	return append(f.split(part, degree, power), f.split(rest, degree, power)...)
}

// trace returns the sum of u, u^m, and so on, as many as the degree says, u being that power of x.
func (f *frobenius[T]) trace(power, degree int) poly[T] {
	u := make(poly[T], power+1)
	u[power] = 1
	sums := make(poly[uint64], len(f.rows))
	for range degree {
		u.add(sums, 1)
		u = f.apply(u)
	}
	return f.reduce(sums)
}

// part returns the product of some of the factors of q, but not of all. The trace is a number modulo each factor, and not the same one modulo all of them: so for some c the trace and c are a square modulo one factor, and none modulo another one. The power tells squares, for which it is 1, from others. (If m is 2, the trace itself is 1 or 0.)
func (f *frobenius[T]) part(q, trace poly[T]) poly[T] {
	exponent := max(1, (f.m-1)/2)
	for c := uint64(0); ; c++ {
		power := f.power(f.plus(trace, c), exponent, q)
		part := f.gcd(q, f.plus(power, f.m-1))
		if part.deg() > 0 && part.deg() < q.deg() {
			return part
		}
	}
}
