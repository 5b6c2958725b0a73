package page

import (
	"strconv"
	"strings"

	"tympan/api"
)

// figures is the letters of roman figures, in the order in which they stand, and their values.
var figures = [...]struct {
	letters string
	value   int
}{
	{"m", 1000}, {"cm", 900}, {"d", 500}, {"cd", 400},
	{"c", 100}, {"xc", 90}, {"l", 50}, {"xl", 40},
	{"x", 10}, {"ix", 9}, {"v", 5}, {"iv", 4}, {"i", 1},
}

// Folio: see the chapter.
func Folio(number int, roman bool) (string, api.Errno) {
	if !isFrom(1, api.MaxFolio, number) {
		return "", api.ErrRange
	}
	if !roman {
		return strconv.Itoa(number), api.OK
	}
	var b strings.Builder
	for _, figure := range figures {
		b.WriteString(strings.Repeat(figure.letters, number/figure.value))
		number %= figure.value
	}
	return b.String(), api.OK
}

// ParseFolio: see the chapter.
func ParseFolio(s string) (int, bool, api.Errno) {
	number, err := strconv.Atoi(s)
	roman := err != nil
	if roman {
		number = valueOf(s)
	}
	// What is written otherwise ("01", "+1", "iiii") is no folio of its number.
	if folio, e := Folio(number, roman); e != api.OK || folio != s {
		return 0, false, api.ErrSyntax
	}
	return number, roman, api.OK
}

// valueOf reads as many roman figures as possible at the beginning of a text.
func valueOf(s string) int {
	value := 0
	for _, figure := range figures {
		for strings.HasPrefix(s, figure.letters) {
			value += figure.value
			s = s[len(figure.letters):]
		}
	}
	return value
}
