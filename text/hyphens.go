package text

import (
	"iter"
	"strings"

	"tympan/api"
)

const noDigit = -1

// pattern is a pattern: its letters, and the digits ahead of each of them and behind the last one.
type pattern struct {
	letters        string
	digits         []int
	atStart, atEnd bool
}

func patternOf(text string) (pattern, bool) {
	p := pattern{}
	text, p.atStart = strings.CutPrefix(text, ".")
	text, p.atEnd = strings.CutSuffix(text, ".")
	digit := noDigit
	for i := range len(text) {
		switch b := text[i]; {
		case isDigit(b) && digit == noDigit:
			digit = int(b - '0')
		case isSmall(b) && len(p.letters) < api.MaxPattern:
			p.letters += text[i : i+1]
			p.digits = append(p.digits, digit)
			digit = noDigit
		default:
			return pattern{}, false
		}
	}
	p.digits = append(p.digits, digit)
	return p, p.letters != ""
}

// foundIn yields the places at which the letters begin in a word that is written with small
// letters. A "." stands for an end of the word alone, not for a byte of it.
func (p pattern) foundIn(small string) iter.Seq[int] {
	return func(yield func(int) bool) {
		last := len(small) - len(p.letters)
		for at := range last + 1 {
			if p.atStart && at > 0 || p.atEnd && at < last || !strings.HasPrefix(small[at:], p.letters) {
				continue
			}
			if !yield(at) {
				return
			}
		}
	}
}

// hasDigit tells whether the pattern, found at a place, has this digit at another one.
func (p pattern) hasDigit(digit, found, place int) bool {
	i := place - found
	return i >= 0 && i < len(p.digits) && p.digits[i] == digit
}

// LevelsOf: see the chapter.
func LevelsOf(r api.TextRules, word string) ([]int, api.Errno) {
	b, e := bookFor(r, word)
	if e != api.OK {
		return nil, e
	}
	return b.levels(word), api.OK
}

// bookFor returns the book of rules, or the error of the rules and of a word.
func bookFor(r api.TextRules, word string) (book, api.Errno) {
	b, _, e := learn(r)
	if e != api.OK {
		return book{}, e
	}
	return b, errorOfWord(word)
}

func (b book) levels(word string) []int {
	levels := make([]int, len(word)+1)
	small := strings.ToLower(word)
	for _, p := range b.patterns {
		for at := range p.foundIn(small) {
			for i, digit := range p.digits {
				levels[at+i] = max(levels[at+i], digit)
			}
		}
	}
	return levels
}

// Deciding: see the chapter.
func Deciding(r api.TextRules, word string, place int) (int, api.Errno) {
	b, e := bookFor(r, word)
	if e != api.OK {
		return 0, e
	}
	if place < 0 || place > len(word) {
		return 0, api.ErrRange
	}
	return b.deciding(word, place)
}

// deciding returns the number of the first pattern that is found with the level of a place there.
func (b book) deciding(word string, place int) (int, api.Errno) {
	level := b.levels(word)[place]
	small := strings.ToLower(word)
	for i, p := range b.patterns {
		for at := range p.foundIn(small) {
			// A digit 0 makes no level.
			if level > 0 && p.hasDigit(level, at, place) {
				return i, api.OK
			}
		}
	}
	return 0, api.ErrNone
}

// Hyphens: see the chapter.
func Hyphens(r api.TextRules, word string) ([]int, api.Errno) {
	b, e := bookFor(r, word)
	if e != api.OK {
		return nil, e
	}
	return b.hyphens(word), api.OK
}

func (b book) hyphens(word string) []int {
	var hyphens []int
	for _, place := range b.possibleHyphens(word) {
		if place >= b.left && len(word)-place >= b.right {
			hyphens = append(hyphens, place)
		}
	}
	return hyphens
}

// possibleHyphens returns where a word may be divided, however near to its ends.
func (b book) possibleHyphens(word string) []int {
	small := strings.ToLower(word)
	if places, ok := b.exceptions[small]; ok {
		return places
	}
	if !areSmall(small) {
		return nil
	}
	var places []int
	for place, level := range b.levels(word) {
		if level%2 == 1 {
			places = append(places, place)
		}
	}
	return places
}

// Hyphened: see the chapter.
func Hyphened(r api.TextRules, word string) (string, api.Errno) {
	b, e := bookFor(r, word)
	if e != api.OK {
		return "", e
	}
	var s strings.Builder
	from := 0
	for _, place := range b.hyphens(word) {
		s.WriteString(word[from:place] + "-")
		from = place
	}
	s.WriteString(word[from:])
	return s.String(), api.OK
}
