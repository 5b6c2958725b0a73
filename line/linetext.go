package line

import (
	"strconv"
	"strings"

	"tympan/api"
)

const maxDigits = 7

// FormatLine: see the chapter.
func FormatLine(l api.TypeLine) string {
	var b strings.Builder
	b.WriteString(strconv.Itoa(l.Measure))
	for _, sort := range l.Sorts {
		b.WriteString(" " + strconv.Itoa(sort))
	}
	return b.String()
}

// ParseLine: see the chapter.
func ParseLine(s string) (api.TypeLine, api.Errno) {
	var numbers []int
	for word := range strings.SplitSeq(s, " ") {
		n, ok := numberOf(word)
		if !ok {
			return api.TypeLine{}, api.ErrSyntax
		}
		numbers = append(numbers, n)
	}
	if len(numbers)-1 > api.MaxLineSet {
		return api.TypeLine{}, api.ErrLarge
	}
	return api.TypeLine{Measure: numbers[0], Sorts: numbers[1:]}, api.OK
}

// numberOf reads a number of at most 7 digits.
func numberOf(word string) (int, bool) {
	if len(strings.TrimPrefix(word, "-")) > maxDigits {
		return 0, false
	}
	n, err := strconv.Atoi(word)
	// A number that is written otherwise ("+1", "01", "-0") is none.
	return n, err == nil && strconv.Itoa(n) == word
}
