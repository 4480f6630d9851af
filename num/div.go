package num

import (
	"math/bits"

	"quadratrix/api"
)

// Div divides with a remainder that is not negative.
func Div(a, b api.Int) (q, r api.Int, e api.Errno) {
	if !both(a, b) {
		return api.Int{}, api.Int{}, api.ErrForm
	}
	if len(b.Abs) == 0 {
		return api.Int{}, api.Int{}, api.ErrZero
	}
	quo, rem := divide(a.Abs, b.Abs)
	if a.Neg && len(rem) > 0 {
		quo = sum(quo, []uint32{1})
		rem = difference(b.Abs, rem)
	}
	return signed(a.Neg != b.Neg, quo), signed(false, rem), api.OK
}

// divide returns the quotient and the remainder of a and b, which is not 0.
func divide(a, b []uint32) (quo, rem []uint32) {
	switch {
	case len(a) <= singleWords && len(b) <= singleWords:
		x, y := single(a), single(b)
		return fromSingle(x / y), fromSingle(x % y)
	case len(b) == 1:
		quo = own(a)
		r := shorten(quo, b[0])
		return trim(quo), fromSingle(uint64(r))
	case compare(a, b) < 0:
		return nil, own(a)
	}
	return divideLong(a, b)
}

// shorten divides w in place by d, and returns the remainder.
func shorten(w []uint32, d uint32) uint32 {
	rem := uint64(0)
	for i := len(w) - 1; i >= 0; i-- {
		t := rem<<32 | uint64(w[i])
		w[i] = uint32(t / uint64(d))
		rem = t % uint64(d)
	}
	return uint32(rem)
}

// divideLong divides as it is done by hand, for b of at least two words and a not less than b. Both are shifted up so that the highest bit of b is set: then the guess of a word of the quotient from the highest words is good.
func divideLong(a, b []uint32) (quo, rem []uint32) {
	k := bits.LeadingZeros32(b[len(b)-1])
	d := shiftUp(b, k)
	rest := make([]uint32, len(a)+1)
	shiftInto(rest, a, k)
	quo = make([]uint32, len(a)-len(b)+1)
	for i := len(quo) - 1; i >= 0; i-- {
		quo[i] = reduce(rest[i:i+len(d)+1], d)
	}
	return trim(quo), shiftDown(rest, k)
}

// reduce takes off rest, which has one word more than d, as many times d as it can, and returns how often: rest is below 2^32 d, and the highest bit of d is set.
func reduce(rest, d []uint32) uint32 {
	q := guessWord(rest, d)
	if subRow(rest, d, q) {
		q--
		rest[len(d)] += addBack(rest, d)
	}
	return q
}

// guessWord returns the word of the quotient of rest and d as the highest words give it; it is right or too great by one.
func guessWord(rest, d []uint32) uint32 {
	n := len(d)
	high, next := uint64(d[n-1]), uint64(d[n-2])
	t := uint64(rest[n])<<32 | uint64(rest[n-1])
	q := min(t/high, 1<<32-1)
	r := t - q*high
	for r < 1<<32 && q*next > r<<32|uint64(rest[n-2]) {
		q--
		r += high
	}
	return uint32(q)
}

// subRow takes q d off rest, and reports whether this went below 0 (then 2^32 to the length of rest is added).
func subRow(rest, d []uint32, q uint32) bool {
	carry := uint64(0)
	for i, x := range d {
		t := uint64(x)*uint64(q) + carry
		carry = t >> 32
		if rest[i] < uint32(t) {
			carry++
		}
		rest[i] -= uint32(t)
	}
	top := rest[len(d)]
	rest[len(d)] = top - uint32(carry)
	return uint64(top) < carry
}

// addBack adds d to as many words of rest, and returns the carry.
func addBack(rest, d []uint32) uint32 {
	return addRow(rest, d, 1)
}
