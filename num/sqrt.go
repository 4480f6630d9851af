package num

import (
	"math/bits"

	"quadratrix/api"
)

// Sqrt returns the greatest integer whose square is not greater than a.
func Sqrt(a api.Int) (api.Int, api.Errno) {
	if !Is(a) {
		return api.Int{}, api.ErrForm
	}
	if a.Neg {
		return api.Int{}, api.ErrArg
	}
	return signed(false, root(a.Abs)), api.OK
}

// root returns the integer part of the square root of w. It finds it for ever more of the highest bits of w by one of Newton's steps each, which doubles their number: the root of the highest 2 d + 1 or 2 d + 2 bits comes out with an error below 1, and lastly that of all of them.
func root(w []uint32) []uint32 {
	if len(w) == 0 {
		return nil
	}
	half := (bitLen(w) - 1) / 2
	out := []uint32{1}
	done := 0
	for i := bits.Len(uint(half)) - 1; i >= 0; i-- {
		d := half >> i
		quo, _ := divide(shiftDown(w, 2*half-done-d+1), out)
		out = sum(shiftUp(out, d-done-1), quo)
		done = d
	}
	if compare(product(out, out), w) > 0 {
		out = difference(out, []uint32{1})
	}
	return out
}
