package rat

import (
	"strings"

	"quadratrix/api"
	"quadratrix/num"
)

// Parse returns the rational number that a text denotes.
func Parse(text string) (a api.Rat, e api.Errno) {
	defer func() {
		if why, ok := recover().(api.Errno); ok {
			a, e = api.Rat{}, why
		}
	}()
	return read(text), api.OK
}

// read returns the rational number that a text denotes; it panics with the error if it denotes none.
func read(text string) api.Rat {
	top, bottom, split := strings.Cut(text, "/")
	if !split {
		n, e := num.Parse(text)
		refuse(e != api.OK, e)
		return Whole(n)
	}
	n, eTop := num.Parse(top)
	d, eBottom := num.Parse(bottom)
	// The limit comes last: parts that are no texts of integers, or no denominators, are refused however long the other part is.
	refuse(eTop == api.ErrForm || eBottom == api.ErrForm, api.ErrForm)
	refuse(bottom == "0" || bottom == "1" || strings.HasPrefix(bottom, "-"), api.ErrForm)
	refuse(eTop != api.OK || eBottom != api.OK, api.ErrLimit)
	refuse(!coprime(n, d), api.ErrForm)
	return api.Rat{N: n, D: d}
}

// refuse panics with e if bad holds.
func refuse(bad bool, e api.Errno) {
	if bad {
		panic(e)
	}
}

// Print returns the text of a rational number.
func Print(a api.Rat) string {
	if isOne(a.D) {
		return num.Print(a.N)
	}
	return num.Print(a.N) + "/" + num.Print(a.D)
}
