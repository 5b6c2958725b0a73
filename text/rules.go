package text

import (
	"slices"
	"strings"

	"tympan/api"
)

const (
	maxLeast = 10
	// maxMarked is how long a word with a mark between any two of its bytes can be.
	maxMarked = 2*api.MaxWordBytes - 1
)

// CheckRules: see the chapter.
func CheckRules(r api.TextRules) (int, api.Errno) {
	_, at, e := learn(r)
	return at, e
}

// book is rules as they are looked up: the places of hyphens are kept by the words of exceptions,
// those at which no ligature may be by the words of bars.
type book struct {
	patterns         []pattern
	exceptions, bars map[string][]int
	left, right      int
}

// learn returns the book of rules, or their first error with the number of what has it.
func learn(r api.TextRules) (book, int, api.Errno) {
	patterns, at, e := patternsOf(r.Patterns)
	if e != api.OK {
		return book{}, at, e
	}
	exceptions, at, e := exceptionStyle().read(r.Exceptions)
	if e != api.OK {
		return book{}, at, e
	}
	bars, at, e := barStyle().read(r.Bars)
	if e != api.OK {
		return book{}, at, e
	}
	if r.Left < 1 || r.Left > maxLeast || r.Right < 1 || r.Right > maxLeast {
		return book{}, 0, api.ErrRange
	}
	return book{patterns: patterns, exceptions: exceptions, bars: bars, left: r.Left, right: r.Right}, 0, api.OK
}

func patternsOf(texts []string) ([]pattern, int, api.Errno) {
	if len(texts) > api.MaxPatterns {
		return nil, 0, api.ErrLarge
	}
	patterns := make([]pattern, len(texts))
	for i, text := range texts {
		p, ok := patternOf(text)
		if !ok {
			return nil, i, api.ErrForm
		}
		patterns[i] = p
	}
	return patterns, 0, api.OK
}

// style is how words are written with marks at places of theirs.
type style struct {
	mark string
	// isRight tells whether a word may have marks at these places.
	isRight func(word string, places []int) bool
}

func exceptionStyle() style {
	return style{mark: "-", isRight: func(word string, places []int) bool {
		return isWord(word) && areSmall(word)
	}}
}

func barStyle() style {
	return style{mark: "|", isRight: func(word string, places []int) bool {
		return isWord(word) && len(places) > 0
	}}
}

// read returns the places of the marks of texts by their words, or the first error with the number
// of its text.
func (s style) read(texts []string) (map[string][]int, int, api.Errno) {
	if len(texts) > api.MaxRuleWords {
		return nil, 0, api.ErrLarge
	}
	found := map[string][]int{}
	for i, text := range texts {
		word, places, ok := s.split(text)
		if !ok {
			return nil, i, api.ErrForm
		}
		if _, ok := found[word]; ok {
			return nil, i, api.ErrExists
		}
		found[word] = places
	}
	return found, 0, api.OK
}

// split returns the word of a text, and the places of its marks.
func (s style) split(text string) (string, []int, bool) {
	if len(text) > maxMarked {
		return "", nil, false
	}
	parts := strings.Split(text, s.mark)
	// A mark stands between two bytes, so a right text has no empty part.
	if slices.Contains(parts, "") {
		return "", nil, false
	}
	word := strings.Join(parts, "")
	var places []int
	at := 0
	for _, part := range parts[:len(parts)-1] {
		at += len(part)
		places = append(places, at)
	}
	return word, places, s.isRight(word, places)
}
