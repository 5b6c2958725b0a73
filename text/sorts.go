package text

import (
	"iter"
	"slices"
	"strings"

	"tympan/api"
	"tympan/fount"
)

// FirstMissing: see the chapter.
func FirstMissing(f api.Fount, word string) (int, api.Errno) {
	if _, e := fount.CheckFount(f); e != api.OK {
		return 0, e
	}
	if e := errorOfWord(word); e != api.OK {
		return 0, e
	}
	for i := range len(word) {
		// Ligatures print two bytes or more, so what prints one is a letter.
		if _, e := fount.Printing(f, word[i:i+1]); e != api.OK {
			return i, api.OK
		}
	}
	return 0, api.ErrNone
}

// setter is what words are set with.
type setter struct {
	fount api.Fount
	book  book
}

func setterOf(f api.Fount, r api.TextRules) (setter, api.Errno) {
	if _, e := fount.CheckFount(f); e != api.OK {
		return setter{}, e
	}
	b, _, e := learn(r)
	if e != api.OK {
		return setter{}, e
	}
	return setter{fount: f, book: b}, api.OK
}

// setterFor returns the setter for a word, or the errors of the fount, the rules and the word.
func setterFor(f api.Fount, r api.TextRules, word string) (setter, api.Errno) {
	s, e := setterOf(f, r)
	if e != api.OK {
		return setter{}, e
	}
	return s, errorOfWord(word)
}

// piece is bytes that are set, and the places among them at which they are barred.
type piece struct {
	fount api.Fount
	text  string
	bars  []int
}

// pieceOf returns the bytes of a word between two places, barred where the whole word is. Bars at
// or beyond the ends of the piece forbid nothing.
func (s setter) pieceOf(word string, from, to int) piece {
	p := piece{fount: s.fount, text: word[from:to]}
	for _, bar := range s.book.bars[word] {
		p.bars = append(p.bars, bar-from)
	}
	return p
}

func (p piece) printed(sort int) string {
	return p.fount.Sorts[sort].Text
}

// isBarred tells whether bytes from a place on go over a place at which the piece is barred.
func (p piece) isBarred(from int, bytes string) bool {
	return slices.ContainsFunc(p.bars, func(bar int) bool {
		return bar > from && bar < from+len(bytes)
	})
}

// sortsAt yields the sorts that may begin at a place.
func (p piece) sortsAt(place int) iter.Seq[int] {
	return func(yield func(int) bool) {
		for i, s := range p.fount.Sorts {
			if s.Kind == api.SortSpace || !strings.HasPrefix(p.text[place:], s.Text) || p.isBarred(place, s.Text) {
				continue
			}
			if !yield(i) {
				return
			}
		}
	}
}

// longest returns the set piece, or false if there is a place at which no sort may begin.
func (p piece) longest() ([]int, bool) {
	var sorts []int
	for place := 0; place < len(p.text); {
		sort, ok := p.longestAt(place)
		if !ok {
			return nil, false
		}
		sorts = append(sorts, sort)
		place += len(p.printed(sort))
	}
	return sorts, true
}

// longestAt returns the sort that prints the most bytes of those that may begin at a place.
func (p piece) longestAt(place int) (int, bool) {
	best, length := 0, 0
	for sort := range p.sortsAt(place) {
		if n := len(p.printed(sort)); n > length {
			best, length = sort, n
		}
	}
	return best, length > 0
}

// fewest returns as few sorts as print the piece, or false if none do.
func (p piece) fewest() ([]int, bool) {
	least := p.leastCounts()
	if least[0] == noSorts {
		return nil, false
	}
	var sorts []int
	for place := 0; place < len(p.text); {
		for sort := range p.sortsAt(place) {
			// The first sort that wastes none makes the list the lexicographically first one.
			if next := place + len(p.printed(sort)); least[next] == least[place]-1 {
				sorts = append(sorts, sort)
				place = next
				break
			}
		}
	}
	return sorts, true
}

// noSorts stands for a number of sorts where none print what is left.
const noSorts = api.MaxWordBytes + 1

// leastCounts returns, for each place, how few sorts print the bytes from there on.
func (p piece) leastCounts() []int {
	least := make([]int, len(p.text)+1)
	for place := len(p.text) - 1; place >= 0; place-- {
		least[place] = noSorts
		for sort := range p.sortsAt(place) {
			least[place] = min(least[place], least[place+len(p.printed(sort))]+1)
		}
	}
	return least
}

// SortsOf: see the chapter.
func SortsOf(f api.Fount, r api.TextRules, word string) ([]int, api.Errno) {
	return sortsBy(piece.longest, f, r, word)
}

// FewestSorts: see the chapter.
func FewestSorts(f api.Fount, r api.TextRules, word string) ([]int, api.Errno) {
	return sortsBy(piece.fewest, f, r, word)
}

func sortsBy(set func(piece) ([]int, bool), f api.Fount, r api.TextRules, word string) ([]int, api.Errno) {
	s, e := setterFor(f, r, word)
	if e != api.OK {
		return nil, e
	}
	return sortsOf(set(s.pieceOf(word, 0, len(word))))
}

// sortsOf makes the error of sorts that there may not be.
func sortsOf(sorts []int, ok bool) ([]int, api.Errno) {
	if !ok {
		return nil, api.ErrMissing
	}
	return sorts, api.OK
}

// CheckSorts: see the chapter.
func CheckSorts(f api.Fount, r api.TextRules, w api.TextSet) api.Errno {
	s, e := setterFor(f, r, w.Word)
	if e != api.OK {
		return e
	}
	if e := errorOfPrinting(f, w.Sorts); e != api.OK {
		return e
	}
	return s.pieceOf(w.Word, 0, len(w.Word)).errorOf(w.Sorts)
}

// errorOfPrinting tells the first number that is not that of a sort which prints something.
func errorOfPrinting(f api.Fount, sorts []int) api.Errno {
	for _, sort := range sorts {
		if !hasSort(f, sort) {
			return api.ErrMissing
		}
		if f.Sorts[sort].Kind == api.SortSpace {
			return api.ErrKind
		}
	}
	return api.OK
}

func hasSort(f api.Fount, sort int) bool {
	return sort >= 0 && sort < len(f.Sorts)
}

// errorOf tells what is wrong with letters and ligatures for the piece: that they do not print it
// comes ahead of what is barred.
func (p piece) errorOf(sorts []int) api.Errno {
	place, barred := 0, false
	for _, sort := range sorts {
		text := p.printed(sort)
		if !strings.HasPrefix(p.text[place:], text) {
			return api.ErrForm
		}
		barred = barred || p.isBarred(place, text)
		place += len(text)
	}
	if place < len(p.text) {
		return api.ErrForm
	}
	if barred {
		return api.ErrBreak
	}
	return api.OK
}
