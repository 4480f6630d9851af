package num

import (
	"iter"
	"strings"

	"quadratrix/api"
)

// blockLen is how many decimal digits a block has: as many as are sure to fit into a word.
const blockLen = 9

// tens are the powers of ten that a block is counted in.
var tens = [blockLen + 1]uint32{1, 10, 100, 1000, 10000, 100000, 1000000, 10000000, 100000000, 1000000000}

// Parse returns the integer that a text denotes.
func Parse(text string) (api.Int, api.Errno) {
	digits, neg := strings.CutPrefix(text, "-")
	if !isDigits(digits) || digits[0] == '0' && text != "0" {
		return api.Int{}, api.ErrForm
	}
	if len(digits) > api.MaxDigits {
		return api.Int{}, api.ErrLimit
	}
	var w []uint32
	for block, n := range textBlocks(digits) {
		w = extend(w, tens[n], block)
	}
	return signed(neg, w), api.OK
}

// isDigits reports whether a text is decimal digits, and not empty.
func isDigits(text string) bool {
	for i := range len(text) {
		if text[i] < '0' || text[i] > '9' {
			return false
		}
	}
	return text != ""
}

// textBlocks yields the numbers of blocks of digits, the highest one first, each with the number of its digits.
func textBlocks(digits string) iter.Seq2[uint32, int] {
	return func(yield func(uint32, int) bool) {
		for len(digits) > 0 {
			n := min(blockLen, len(digits))
			block := uint32(0)
			for i := range n {
				block = 10*block + uint32(digits[i]-'0')
			}
			digits = digits[n:]
			if !yield(block, n) {
				return
			}
		}
	}
}

// extend returns w times d and c, in the memory of w if it has room.
func extend(w []uint32, d, c uint32) []uint32 {
	carry := uint64(c)
	for i, x := range w {
		t := uint64(x)*uint64(d) + carry
		w[i] = uint32(t)
		carry = t >> 32
	}
	if carry != 0 {
		w = append(w, uint32(carry))
	}
	return w
}

// Print returns the text of an integer.
func Print(a api.Int) string {
	if !Is(a) {
		return ""
	}
	if len(a.Abs) == 0 {
		return "0"
	}
	// A word takes less than ten digits.
	out := make([]byte, 1+10*len(a.Abs)+blockLen)
	at := len(out)
	for block := range wordBlocks(a.Abs) {
		for range blockLen {
			at--
			out[at] = byte('0' + block%10)
			block /= 10
		}
	}
	for out[at] == '0' {
		at++
	}
	if a.Neg {
		at--
		out[at] = '-'
	}
	return string(out[at:])
}

// wordBlocks yields the numbers of the blocks of digits of w, the lowest one first.
func wordBlocks(w []uint32) iter.Seq[uint32] {
	return func(yield func(uint32) bool) {
		rest := own(w)
		for len(rest) > 0 {
			block := shorten(rest, tens[blockLen])
			rest = trim(rest)
			if !yield(block) {
				return
			}
		}
	}
}
