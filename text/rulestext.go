package text

import (
	"slices"
	"strconv"
	"strings"

	"tympan/api"
)

const (
	leastWord     = "least"
	patternWord   = "pattern"
	exceptionWord = "word"
	barWord       = "bar"
	maxDigits     = 7
)

// PrintRules: see the chapter.
func PrintRules(r api.TextRules) (string, api.Errno) {
	if _, e := CheckRules(r); e != api.OK {
		return "", e
	}
	var s strings.Builder
	s.WriteString(leastWord + " " + strconv.Itoa(r.Left) + " " + strconv.Itoa(r.Right) + "\n")
	writeLines(&s, patternWord, r.Patterns)
	writeLines(&s, exceptionWord, r.Exceptions)
	writeLines(&s, barWord, r.Bars)
	return s.String(), api.OK
}

func writeLines(s *strings.Builder, first string, named []string) {
	for _, name := range named {
		s.WriteString(first + " " + name + "\n")
	}
}

// ParseRules: see the chapter.
func ParseRules(s string) (api.TextRules, int, api.Errno) {
	if len(s) > api.MaxText {
		return api.TextRules{}, 0, api.ErrLarge
	}
	r := &rulesReader{last: noLine}
	number := 0
	for rest := s; number == 0 || rest != ""; {
		line, behind, isEnded := strings.Cut(rest, "\n")
		rest = behind
		number++
		if !isEnded || !r.readLine(line) {
			return api.TextRules{}, number, api.ErrSyntax
		}
	}
	if _, e := CheckRules(r.rules); e != api.OK {
		return api.TextRules{}, 0, e
	}
	return r.rules, 0, api.OK
}

// rulesReader reads the text of rules line by line; last is the kind of the line before.
type rulesReader struct {
	rules api.TextRules
	last  int
}

// noLine is the kind of the line before the first one.
const noLine = -1

// lineKind is a kind of lines: their first word, and what reads the rest of one.
type lineKind struct {
	first string
	read  func(r *rulesReader, rest string) bool
}

// lineKinds returns the kinds of lines in their order.
func lineKinds() []lineKind {
	return []lineKind{
		{leastWord, (*rulesReader).readLeast},
		{patternWord, (*rulesReader).readPattern},
		{exceptionWord, (*rulesReader).readException},
		{barWord, (*rulesReader).readBar},
	}
}

// readLine tells whether a line is right behind those before it.
func (r *rulesReader) readLine(line string) bool {
	first, rest, hasRest := strings.Cut(line, " ")
	kinds := lineKinds()
	kind := slices.IndexFunc(kinds, func(k lineKind) bool { return k.first == first })
	isFirst := r.last == noLine
	if !hasRest || kind < 0 || kind < r.last || isFirst != (kind == 0) {
		return false
	}
	r.last = kind
	return kinds[kind].read(r, rest)
}

func (r *rulesReader) readLeast(rest string) bool {
	left, right, _ := strings.Cut(rest, " ")
	var isLeft, isRight bool
	r.rules.Left, isLeft = numberOf(left)
	r.rules.Right, isRight = numberOf(right)
	return isLeft && isRight
}

func (r *rulesReader) readPattern(rest string) bool {
	return readName(&r.rules.Patterns, rest)
}

func (r *rulesReader) readException(rest string) bool {
	return readName(&r.rules.Exceptions, rest)
}

func (r *rulesReader) readBar(rest string) bool {
	return readName(&r.rules.Bars, rest)
}

// readName adds what the rest of a line names to a list. It clones it: rules shall not hold their
// whole text.
func readName(names *[]string, rest string) bool {
	*names = append(*names, strings.Clone(rest))
	return !strings.Contains(rest, " ")
}

// numberOf reads a number of at most 7 digits.
func numberOf(text string) (int, bool) {
	if len(strings.TrimPrefix(text, "-")) > maxDigits {
		return 0, false
	}
	n, err := strconv.Atoi(text)
	// What is written otherwise (with "+", with leading zeros, "-0") is no number.
	return n, err == nil && strconv.Itoa(n) == text
}
