package press

import (
	"strconv"
	"strings"

	"tympan/api"
)

const maxDigits = 7

// numbersOf returns the numbers of a run that stand in its text, behind the name of its job.
func numbersOf(x *api.PressRun) []*int {
	return []*int{&x.Day, &x.Wanted, &x.Given, &x.Ready, &x.Hour}
}

// FormatRun: see the chapter.
func FormatRun(x api.PressRun) string {
	words := []string{x.Job}
	for _, n := range numbersOf(&x) {
		words = append(words, strconv.Itoa(*n))
	}
	return strings.Join(append(words, x.Colours...), " ")
}

// ParseRun: see the chapter.
func ParseRun(s string) (api.PressRun, api.Errno) {
	var x api.PressRun
	numbers := numbersOf(&x)
	first := 1 + len(numbers)
	// However many colours there are, one more than a run may have is too many.
	words := strings.SplitN(s, " ", first+api.MaxColours+1)
	if len(words) < first {
		return api.PressRun{}, api.ErrSyntax
	}
	for i, n := range numbers {
		isNumber := false
		if *n, isNumber = numberOf(words[1+i]); !isNumber {
			return api.PressRun{}, api.ErrSyntax
		}
	}
	x.Job, x.Colours = words[0], words[first:]
	if e := CheckRun(x); e != api.OK {
		return api.PressRun{}, e
	}
	return x, api.OK
}

// numberOf reads a number of at most 7 digits.
func numberOf(text string) (int, bool) {
	if len(strings.TrimPrefix(text, "-")) > maxDigits {
		return 0, false
	}
	n, err := strconv.Atoi(text)
	// What is written otherwise (with "+", with leading zeros, "-0") is no number.
	return n, err == nil && strconv.Itoa(n) == text
}
