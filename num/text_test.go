package num_test

import (
	"strings"
	"testing"

	"quadratrix/api"
	"quadratrix/num"
)

// P1.6
func TestParse(t *testing.T) {
	for _, s := range []string{"0", "7", "-7", "-120", "10", "999999999", "1000000000", "-1000000001", "999999999999999999", "1000000000000000000", "4294967296", "100000000000000000000", "18446744073709551616"} {
		if a, e := num.Parse(s); !same(a, parsed(t, s)) || e != api.OK {
			t.Error(s, a, e)
		}
	}
	for _, s := range []string{"", "-", "-0", "00", "007", "-07", "+1", "--1", "1-", " 1", "1 ", "1_0", "0x1", "1.0", "1e3", "a", "/", ":", "١", "1\n", "\x00", "\xff"} {
		if a, e := num.Parse(s); !zero(a) || e != api.ErrForm {
			t.Errorf("%q %v %d", s, a, e)
		}
	}
}

// P1.6: the limit counts digits, and what is no text of an integer is none however long it is.
func TestParseLimit(t *testing.T) {
	most := "9" + strings.Repeat("1", api.MaxDigits-1)
	for _, s := range []string{most, "-" + most} {
		if a, e := num.Parse(s); !same(a, parsed(t, s)) || e != api.OK {
			t.Error(len(s), e)
		}
	}
	for s, want := range map[string]api.Errno{
		most + "0":       api.ErrLimit,
		"-" + most + "0": api.ErrLimit,
		most + "x":       api.ErrForm,
		most + "00x":     api.ErrForm,
		"0" + most:       api.ErrForm,
		"-0" + most:      api.ErrForm,
		"+" + most + "0": api.ErrForm,
	} {
		if a, e := num.Parse(s); !zero(a) || e != want {
			t.Error(s[:5], s[len(s)-5:], e)
		}
	}
}

// P1.6
func TestPrint(t *testing.T) {
	for _, a := range some() {
		if s := num.Print(a); s != toBig(a).String() {
			t.Error(a, s)
		}
	}
	for k, s := 0, "1"; k < 100; k, s = k+1, s+"0" { // 1, 10, 100 ..
		if got := num.Print(power(t, whole(-10), k)); strings.TrimPrefix(got, "-") != s || (got[0] == '-') != (k%2 == 1) {
			t.Error(k, got)
		}
	}
	if long := power(t, whole(3), 40000); num.Print(long) != toBig(long).String() {
		t.Error("a long number")
	}
}

// P1.11
func TestRoundTrips(t *testing.T) {
	w := &words{state: 7}
	list := some()
	for i := range 100 {
		list = append(list, w.number(i))
	}
	for _, a := range list {
		text := num.Print(a)
		if b, e := num.Parse(text); !same(a, b) || e != api.OK {
			t.Error(a, b, e)
		}
		for d := range 10 {
			checkDigit(t, a, text, d)
		}
	}
	for n := 1; n <= api.MaxDigits; n += 1 + n/3 {
		s := "8" + strings.Repeat("0", n/2) + strings.Repeat("9", n-1-n/2)
		a, e := num.Parse(s)
		if got := num.Print(a); got != s || e != api.OK {
			t.Error(n, e)
		}
	}
}

// checkDigit puts a digit behind a text: of an integer other than 0 it makes ten times the integer and the digit, away from 0.
func checkDigit(t *testing.T, a api.Int, text string, d int) {
	t.Helper()
	longer, e := num.Parse(text + string(rune('0'+d)))
	if num.Sign(a) == 0 {
		if !zero(longer) || e != api.ErrForm {
			t.Error(text, d, longer, e)
		}
		return
	}
	digit := whole(int64(d * num.Sign(a)))
	if want := num.Add(num.Mul(whole(10), a), digit); !same(longer, want) || e != api.OK {
		t.Error(text, d, longer, e)
	}
}
