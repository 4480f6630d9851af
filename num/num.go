// Package num is layer 1, integers of any size: see shared/doc/01-num.md.
package num

import "quadratrix/api"

// Is reports whether an integer is in canonical form.
func Is(a api.Int) bool {
	if len(a.Abs) == 0 {
		return !a.Neg
	}
	return a.Abs[len(a.Abs)-1] != 0
}

// both reports whether two integers are canonical.
func both(a, b api.Int) bool {
	return Is(a) && Is(b)
}

// Of returns the integer n.
func Of(n int) api.Int {
	m := uint64(n)
	if n < 0 {
		m = -m // the opposite of the least int is no int, but it is right here
	}
	return signed(n < 0, fromSingle(m))
}

// Small returns an integer as an int.
func Small(a api.Int) (int, api.Errno) {
	if !Is(a) {
		return 0, api.ErrForm
	}
	if len(a.Abs) > singleWords {
		return 0, api.ErrLimit
	}
	const half = 1 << 63
	m := single(a.Abs)
	if m > half || m == half && !a.Neg {
		return 0, api.ErrLimit
	}
	if a.Neg {
		m = -m
	}
	return int(m), api.OK
}

// Bits returns the number of bits of the absolute value.
func Bits(a api.Int) int {
	if !Is(a) {
		return 0
	}
	return bitLen(a.Abs)
}

// Sign returns -1, 0 or 1.
func Sign(a api.Int) int {
	switch {
	case !Is(a) || len(a.Abs) == 0:
		return 0
	case a.Neg:
		return -1
	}
	return 1
}

// Cmp compares two integers.
func Cmp(a, b api.Int) int {
	switch {
	case !both(a, b):
		return 0
	case a.Neg && b.Neg:
		return compare(b.Abs, a.Abs)
	case a.Neg:
		return -1
	case b.Neg:
		return 1
	}
	return compare(a.Abs, b.Abs)
}

// Neg returns -a.
func Neg(a api.Int) api.Int {
	if !Is(a) {
		return api.Int{}
	}
	return signed(!a.Neg, own(a.Abs))
}

// Abs returns the absolute value.
func Abs(a api.Int) api.Int {
	if !Is(a) {
		return api.Int{}
	}
	return signed(false, own(a.Abs))
}

// Add returns a sum.
func Add(a, b api.Int) api.Int {
	if !both(a, b) {
		return api.Int{}
	}
	return add(a.Neg, a.Abs, b.Neg, b.Abs)
}

// Sub returns a difference.
func Sub(a, b api.Int) api.Int {
	if !both(a, b) {
		return api.Int{}
	}
	return add(a.Neg, a.Abs, !b.Neg, b.Abs)
}

// add adds two numbers that are given by their signs and absolute values.
func add(aNeg bool, a []uint32, bNeg bool, b []uint32) api.Int {
	if aNeg == bNeg {
		return signed(aNeg, sum(a, b))
	}
	if compare(a, b) < 0 {
		return signed(bNeg, difference(b, a))
	}
	return signed(aNeg, difference(a, b))
}

// signed returns the canonical integer with that sign, if it is not 0, and with that absolute value, whose words it keeps.
func signed(neg bool, w []uint32) api.Int {
	if len(w) == 0 {
		return api.Int{}
	}
	return api.Int{Neg: neg, Abs: w}
}
