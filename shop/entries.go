package shop

import (
	"slices"
	"strconv"
	"strings"

	"tympan/api"
	"tympan/fount"
	"tympan/proof"
	"tympan/text"
)

// entry is what an entry of a log says.
type entry interface {
	// enter does it to a shop, or tells with what it is refused; the shop is as before then.
	enter(s *shop) api.Errno
}

// The entries: those that are cases, those with a name of a forme or of a page alone, and the others.
type (
	casting []int
	wearing []int
	melting []int

	unlocking    string
	distribution string
	resetting    string

	setting struct {
		page  string
		words []string
	}
	correction struct {
		page string
		mark api.ProofMark
	}
	locking struct {
		forme string
		pages []string
	}
	printing struct {
		forme  string
		sheets int
	}
)

// reader reads the rest of an entry, or returns its error.
type reader func(f api.Fount, rest string) (entry, api.Errno)

// readers returns the readers of all entries by their words.
func readers() map[string]reader {
	return map[string]reader{
		"cast":       caseReader(func(counts []int) entry { return casting(counts) }),
		"set":        readSetting,
		"correct":    readCorrection,
		"lock":       readLocking,
		"print":      readPrinting,
		"unlock":     nameReader(func(forme string) entry { return unlocking(forme) }),
		"distribute": nameReader(func(page string) entry { return distribution(page) }),
		"again":      nameReader(func(page string) entry { return resetting(page) }),
		"worn":       caseReader(func(counts []int) entry { return wearing(counts) }),
		"melt":       caseReader(func(counts []int) entry { return melting(counts) }),
	}
}

// entryOf reads an entry, or returns the error of its text.
func entryOf(f api.Fount, written string) (entry, api.Errno) {
	if len(written) > api.MaxShopEntry {
		return nil, api.ErrLarge
	}
	word, rest, hasRest := strings.Cut(written, " ")
	if !hasRest || strings.Contains(written, "\n") {
		return nil, api.ErrSyntax
	}
	read, isWord := readers()[word]
	if !isWord {
		return nil, api.ErrKind
	}
	return read(f, rest)
}

// caseReader returns the reader of entries that are cases.
func caseReader(entryWith func(counts []int) entry) reader {
	return func(f api.Fount, rest string) (entry, api.Errno) {
		counts, e := fount.ParseCase(f, rest)
		if e != api.OK {
			return nil, e
		}
		if rest == "" {
			return nil, api.ErrZero
		}
		return entryWith(counts), api.OK
	}
}

// nameReader returns the reader of entries that are names.
func nameReader(entryWith func(name string) entry) reader {
	return func(_ api.Fount, rest string) (entry, api.Errno) {
		if !isName(rest) {
			return nil, api.ErrName
		}
		return entryWith(rest), api.OK
	}
}

func readSetting(_ api.Fount, rest string) (entry, api.Errno) {
	words := strings.Split(rest, " ")
	name, words := words[0], words[1:]
	if len(words) == 0 || slices.Contains(words, "") {
		return nil, api.ErrSyntax
	}
	if !isName(name) {
		return nil, api.ErrName
	}
	if _, e := text.CheckParts(asCopy(words)); e != api.OK {
		return nil, e
	}
	return setting{name, words}, api.OK
}

// asCopy returns words as a paragraph.
func asCopy(words []string) []api.CopyPart {
	return []api.CopyPart{{Kind: api.CopyBody, Words: words}}
}

func readCorrection(_ api.Fount, rest string) (entry, api.Errno) {
	name, mark, hasMark := strings.Cut(rest, " ")
	if !hasMark {
		return nil, api.ErrSyntax
	}
	if !isName(name) {
		return nil, api.ErrName
	}
	m, e := proof.ParseMark(mark)
	if e != api.OK {
		return nil, e
	}
	return correction{name, m}, api.OK
}

func readLocking(_ api.Fount, rest string) (entry, api.Errno) {
	names := strings.Split(rest, " ")
	if len(names) < 2 {
		return nil, api.ErrSyntax
	}
	for _, name := range names {
		if !isName(name) {
			return nil, api.ErrName
		}
	}
	return locking{names[0], names[1:]}, api.OK
}

func readPrinting(_ api.Fount, rest string) (entry, api.Errno) {
	// No number has a blank, so that a third word is an error of the second one.
	name, number, _ := strings.Cut(rest, " ")
	sheets, isNumber := numberOf(number)
	switch {
	case !isNumber:
		return nil, api.ErrSyntax
	case !isName(name):
		return nil, api.ErrName
	case !isFrom(1, api.MaxShopSheets, sheets):
		return nil, api.ErrRange
	}
	return printing{name, sheets}, api.OK
}

const maxDigits = 7

// numberOf reads a number of at most 7 digits.
func numberOf(written string) (int, bool) {
	if len(strings.TrimPrefix(written, "-")) > maxDigits {
		return 0, false
	}
	n, err := strconv.Atoi(written)
	// What is written otherwise (with "+", with leading zeros, "-0") is no number.
	return n, err == nil && strconv.Itoa(n) == written
}
