package num

import (
	"cmp"
	"math/bits"
)

// The functions of this file compute with absolute values: lists of words, the lowest one first, whose last one is not 0.

// singleWords is how many words fit into a uint64.
const singleWords = 2

// trim cuts off the words 0 at the end.
func trim(w []uint32) []uint32 {
	n := len(w)
	for n > 0 && w[n-1] == 0 {
		n--
	}
	return w[:n]
}

// own returns a copy of words.
func own(w []uint32) []uint32 {
	out := make([]uint32, len(w))
	copy(out, w)
	return out
}

// single returns the number of at most singleWords words.
func single(w []uint32) uint64 {
	return uint64(wordAt(w, 0)) | uint64(wordAt(w, 1))<<32
}

// fromSingle returns the words of n.
func fromSingle(n uint64) []uint32 {
	return trim([]uint32{uint32(n), uint32(n >> 32)})
}

// wordAt returns the word i, which is 0 behind the last one.
func wordAt(w []uint32, i int) uint32 {
	if i < len(w) {
		return w[i]
	}
	return 0
}

// bitLen returns the least k for which the number is below 2^k.
func bitLen(w []uint32) int {
	if len(w) == 0 {
		return 0
	}
	return 32*(len(w)-1) + bits.Len32(w[len(w)-1])
}

// compare returns -1, 0 or 1 as a is less than, equal to or greater than b.
func compare(a, b []uint32) int {
	if len(a) != len(b) {
		return cmp.Compare(len(a), len(b))
	}
	for i := len(a) - 1; i >= 0; i-- {
		if a[i] != b[i] {
			return cmp.Compare(a[i], b[i])
		}
	}
	return 0
}

// fold hands the words of a and of b, which is not longer and goes on with words 0, to step in pairs, the lowest ones first, each with what the step before has led to.
func fold[S any](a, b []uint32, s S, step func(s S, i int, x, y uint32) S) S {
	for i, x := range a {
		s = step(s, i, x, wordAt(b, i))
	}
	return s
}

// sum returns a + b.
func sum(a, b []uint32) []uint32 {
	if len(a) < len(b) {
		a, b = b, a
	}
	out := make([]uint32, len(a)+1)
	carry := fold(a, b, 0, func(carry uint64, i int, x, y uint32) uint64 {
		t := uint64(x) + uint64(y) + carry
		out[i] = uint32(t)
		return t >> 32
	})
	out[len(a)] = uint32(carry)
	return trim(out)
}

// difference returns a - b, for a not less than b.
func difference(a, b []uint32) []uint32 {
	out := make([]uint32, len(a))
	fold(a, b, 0, func(carry int64, i int, x, y uint32) int64 {
		t := int64(x) - int64(y) + carry
		out[i] = uint32(t)
		return t >> 32
	})
	return trim(out)
}

// shiftUp returns w times 2^n.
func shiftUp(w []uint32, n int) []uint32 {
	if len(w) == 0 {
		return nil
	}
	skip := n / 32
	out := make([]uint32, skip+len(w)+1)
	shiftInto(out[skip:], w, n%32)
	return trim(out)
}

// shiftInto puts w times 2^k, for k below 32, into out, which is 0 and has one word more.
func shiftInto(out, w []uint32, k int) {
	for i, x := range w {
		t := uint64(x) << k
		out[i] |= uint32(t)
		out[i+1] = uint32(t >> 32)
	}
}

// shiftDown returns the integer part of w divided by 2^n.
func shiftDown(w []uint32, n int) []uint32 {
	skip, k := n/32, n%32
	if skip >= len(w) {
		return nil
	}
	out := make([]uint32, len(w)-skip)
	for i := range out {
		t := uint64(w[skip+i]) | uint64(wordAt(w, skip+i+1))<<32
		out[i] = uint32(t >> k)
	}
	return trim(out)
}
