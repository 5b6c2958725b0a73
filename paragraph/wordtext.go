package paragraph

import (
	"strconv"
	"strings"

	"tympan/api"
)

const maxDigits = 7

// FormatWord: see the chapter.
func FormatWord(w api.ParagraphWord) string {
	return formatNumbers(w.Sorts) + "/" + formatNumbers(w.Breaks)
}

func formatNumbers(numbers []int) string {
	texts := make([]string, len(numbers))
	for i, n := range numbers {
		texts[i] = strconv.Itoa(n)
	}
	return strings.Join(texts, " ")
}

// ParseWord: see the chapter.
func ParseWord(s string) (api.ParagraphWord, api.Errno) {
	ahead, behind, hasBar := strings.Cut(s, "/")
	sorts, areSorts := parseNumbers(ahead)
	breaks, areBreaks := parseNumbers(behind)
	if !hasBar || !areSorts || !areBreaks {
		return api.ParagraphWord{}, api.ErrSyntax
	}
	if len(sorts) > api.MaxWordSorts || len(breaks) > api.MaxWordSorts {
		return api.ParagraphWord{}, api.ErrLarge
	}
	return api.ParagraphWord{Sorts: sorts, Breaks: breaks}, api.OK
}

// parseNumbers reads numbers with single blanks between; there may be none.
func parseNumbers(s string) ([]int, bool) {
	if s == "" {
		return nil, true
	}
	var numbers []int
	for text := range strings.SplitSeq(s, " ") {
		n, ok := numberOf(text)
		if !ok {
			return nil, false
		}
		numbers = append(numbers, n)
	}
	return numbers, true
}

// numberOf reads a number of at most 7 digits.
func numberOf(text string) (int, bool) {
	if len(strings.TrimPrefix(text, "-")) > maxDigits {
		return 0, false
	}
	n, err := strconv.Atoi(text)
	// What is written otherwise (with "+", with leading zeros, "-0") is no number.
	return n, err == nil && strconv.Itoa(n) == text
}
