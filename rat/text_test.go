package rat_test

import (
	"strings"
	"testing"

	"quadratrix/api"
	"quadratrix/num"
	"quadratrix/rat"
)

// P2.6
func TestParse(t *testing.T) {
	for s, want := range map[string]api.Rat{
		"0": quo(0, 1), "7": quo(7, 1), "-7": quo(-7, 1), "1/2": quo(1, 2), "-3/4": quo(-3, 4), "10/3": quo(10, 3), "-1/1000000007": quo(-1, 1000000007),
		"4294967296/4294967297": quo(1<<32, 1<<32+1), "5/12": quo(5, 12),
	} {
		if a, e := rat.Parse(s); !same(a, want) || e != api.OK {
			t.Error(s, a, e)
		}
	}
	for _, s := range []string{
		"", "/", "1/", "/2", "//", "1//2", "1/2/3", "1/2/", "/1/2", "-", "-/2", "1/-", "2/4", "-2/4", "3/1", "0/1", "0/3", "1/0", "0/0", "6/3", "1/-2", "-1/-2", "1/--2", "-0", "-0/3", "-0/1",
		"+1", "+1/2", "1/+2", "01", "01/2", "1/02", "00", "1 /2", "1/ 2", " 1/2", "1/2 ", "1.5", "1/2.0", "a", "1/b", "1\\2", "1/2\n", "\xff", "1/\xff", "0x1/3", "١/٢",
	} {
		if a, e := rat.Parse(s); !isNothing(a) || e != api.ErrForm {
			t.Errorf("%q %v %d", s, a, e)
		}
	}
}

// P2.6: a part that is too long is refused with ErrLimit only if the form of both is right.
func TestParseLimit(t *testing.T) {
	most := strings.Repeat("2", api.MaxDigits-1) + "3"
	long := most + "3"
	for _, s := range []string{most, "-" + most, "1/" + most, most + "/2", "-" + most + "/2"} {
		if a, e := rat.Parse(s); !rat.Is(a) || rat.Print(a) != s || e != api.OK {
			t.Error(len(s), e)
		}
	}
	for s, want := range map[string]api.Errno{
		long:                     api.ErrLimit,
		"-" + long:               api.ErrLimit,
		long + "/2":              api.ErrLimit,
		"-" + long + "/2":        api.ErrLimit,
		"2/" + long:              api.ErrLimit,
		"0/" + long:              api.ErrLimit,
		long + "/" + long:        api.ErrLimit,
		long + "/" + most:        api.ErrLimit,
		long + "0/10":            api.ErrLimit,
		"10/" + long + "0":       api.ErrLimit,
		most + "/" + most:        api.ErrForm,
		long + "/1":              api.ErrForm,
		long + "/0":              api.ErrForm,
		long + "/-2":             api.ErrForm,
		long + "/-" + long:       api.ErrForm,
		"2/-" + long:             api.ErrForm,
		long + "/02":             api.ErrForm,
		long + "/":               api.ErrForm,
		long + "/x":              api.ErrForm,
		long + "/2/3":            api.ErrForm,
		"/" + long:               api.ErrForm,
		"x/" + long:              api.ErrForm,
		"-0/" + long:             api.ErrForm,
		"02/" + long:             api.ErrForm,
		"0" + long + "/2":        api.ErrForm,
		"2/0" + long:             api.ErrForm,
		long + "x/2":             api.ErrForm,
		long + "/" + long + "x":  api.ErrForm,
		long + "/" + long + "/2": api.ErrForm,
	} {
		if a, e := rat.Parse(s); !isNothing(a) || e != want {
			t.Error(len(s), s[:4], s[len(s)-4:], e)
		}
	}
}

// P2.6
func TestPrint(t *testing.T) {
	for _, a := range some() {
		want := bigRat(a).RatString()
		if s := rat.Print(a); s != want {
			t.Error(a, s)
		}
	}
	if rat.Print(quo(-3, 4)) != "-3/4" || rat.Print(quo(5, 1)) != "5" || rat.Print(quo(0, 1)) != "0" {
		t.Error("Print")
	}
}

// P2.11: as each text that Parse takes is printed again, there is just one of each number.
func TestRoundTrips(t *testing.T) {
	triples(func(a, b, c api.Rat) {
		for _, x := range []api.Rat{a, b, c, rat.Whole(a.N)} {
			if y, e := rat.Parse(rat.Print(x)); !same(x, y) || e != api.OK {
				t.Error(x, y, e)
			}
		}
	})
	taken := 0
	for _, top := range []string{"0", "1", "-1", "2", "-3", "06", "+1", "-0", "12", ""} {
		for _, rest := range []string{"", "/", "/0", "/1", "/2", "/-2", "/3", "/02", "/4", "/12", "/35"} {
			a, e := rat.Parse(top + rest)
			if e == api.OK {
				taken++
				if rat.Print(a) != top+rest || !rat.Is(a) {
					t.Error(top+rest, rat.Print(a))
				}
			}
		}
	}
	if taken != 22 {
		t.Error("texts that are taken:", taken)
	}
	if a, e := rat.Parse(rat.Print(api.Rat{N: num.Of(-1 << 63), D: num.Of(1<<63 - 1)})); !rat.Is(a) || e != api.OK {
		t.Error(a, e)
	}
}
