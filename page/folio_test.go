package page_test

import (
	"strconv"
	"strings"
	"testing"

	"tympan/api"
	"tympan/page"
)

// digits is the roman figures of a digit, with the letters for one, five and ten.
func digits(digit int, one, five, ten string) string {
	switch {
	case digit == 9:
		return one + ten
	case digit >= 5:
		return five + strings.Repeat(one, digit-5)
	case digit == 4:
		return one + five
	}
	return strings.Repeat(one, digit)
}

func romanOf(n int) string {
	return digits(n/1000, "m", "", "") + digits(n/100%10, "c", "d", "m") + digits(n/10%10, "x", "l", "c") + digits(n%10, "i", "v", "x")
}

// P5.6, P5.12: the folios of all numbers, and these back.
func TestFolios(t *testing.T) {
	for n := 1; n <= 3999; n++ {
		for roman, want := range map[bool]string{false: strconv.Itoa(n), true: romanOf(n)} {
			if s, e := page.Folio(n, roman); s != want || e != api.OK {
				t.Errorf("Folio of %d, %v: %q, error %d, want %q", n, roman, s, e, want)
			}
			if back, isRoman, e := page.ParseFolio(want); back != n || isRoman != roman || e != api.OK {
				t.Errorf("ParseFolio of %q: %d, %v, error %d", want, back, isRoman, e)
			}
		}
	}
	for n, want := range map[int]string{1994: "mcmxciv", 14: "xiv", 1: "i", 3999: "mmmcmxcix", 3888: "mmmdccclxxxviii", 444: "cdxliv"} {
		if s, e := page.Folio(n, true); s != want || e != api.OK {
			t.Errorf("Folio of %d: %q, error %d, want %q", n, s, e, want)
		}
	}
	for _, n := range []int{0, -1, 4000, great, -great - 1} {
		for _, roman := range []bool{false, true} {
			if s, e := page.Folio(n, roman); s != "" || e != api.ErrRange {
				t.Errorf("Folio of %d: %q, error %d", n, s, e)
			}
		}
	}
}

// P5.6: what is no folio.
func TestNoFolios(t *testing.T) {
	for _, s := range []string{
		"", "0", "01", "4000", "-1", "-0", "+1", "1.0", "1 ", " 1", "1\n", "0x1", "1_0", "00", "007", "1e3", "\u0663", "10000000000000000000000",
		"iiii", "ic", "vv", "iix", "ivi", "iviv", "ixi", "vx", "xxxx", "lc", "ll", "xcx", "cccc", "dd", "dm", "cmc", "cdc", "mmmm", "im", "il", "xm", "xd", "vl",
		"I", "X", "xIv", "Mcmxciv", "xiv ", " xiv", "x iv", "xiv\n", "x1", "1x", "nulla", "n", "a", "xiva", "axiv", "-x", "+x", "\u2170",
		strings.Repeat("m", 59999), strings.Repeat("9", 59999), strings.Repeat("i", 3999),
	} {
		if n, roman, e := page.ParseFolio(s); n != 0 || roman || e != api.ErrSyntax {
			t.Errorf("ParseFolio of %.20q: %d, %v, error %d", s, n, roman, e)
		}
	}
	// Of all short texts of these letters just the folios of their numbers are read.
	folios := map[string]int{}
	for n := 1; n <= 3999; n++ {
		folios[romanOf(n)] = n
	}
	var try func(s string)
	try = func(s string) {
		want, ok := folios[s]
		n, roman, e := page.ParseFolio(s)
		if n != want || roman != ok || (e == api.OK) != ok {
			t.Errorf("ParseFolio of %q: %d, %v, error %d", s, n, roman, e)
		}
		if len(s) < 5 {
			for _, letter := range "mdclxvi" {
				try(s + string(letter))
			}
		}
	}
	try("")
}
