package text

import (
	"slices"

	"tympan/api"
	"tympan/fount"
)

// Words: see the chapter.
func Words(f api.Fount, r api.TextRules, words []string) ([]api.ParagraphWord, api.Errno) {
	s, e := setterOf(f, r)
	if e != api.OK {
		return nil, e
	}
	if len(words) > api.MaxPartWords {
		return nil, api.ErrLarge
	}
	set := make([]api.ParagraphWord, len(words))
	for i, word := range words {
		if set[i], e = s.wordOf(word); e != api.OK {
			return nil, e
		}
	}
	return set, api.OK
}

func (s setter) wordOf(word string) (api.ParagraphWord, api.Errno) {
	sorts, e := s.setWord(word)
	if e != api.OK {
		return api.ParagraphWord{}, e
	}
	return api.ParagraphWord{Sorts: sorts, Breaks: s.breaksOf(word, sorts)}, api.OK
}

func (s setter) setWord(word string) ([]int, api.Errno) {
	if e := errorOfWord(word); e != api.OK {
		return nil, e
	}
	return sortsOf(s.pieceOf(word, 0, len(word)).longest())
}

// breaksOf returns how many sorts are ahead of the hyphens of a word at which one begins.
func (s setter) breaksOf(word string, sorts []int) []int {
	hyphens := s.book.hyphens(word)
	var breaks []int
	place := 0
	for ahead, sort := range sorts {
		if slices.Contains(hyphens, place) {
			breaks = append(breaks, ahead)
		}
		place += len(s.fount.Sorts[sort].Text)
	}
	return breaks
}

// Needs: see the chapter.
func Needs(f api.Fount, r api.TextRules, l []api.CopyPart) ([]int, api.Errno) {
	s, e := setterOf(f, r)
	if e != api.OK {
		return nil, e
	}
	if _, e := CheckParts(l); e != api.OK {
		return nil, e
	}
	needs := make([]int, len(f.Sorts))
	for _, part := range l {
		for _, word := range part.Words {
			sorts, e := s.setWord(word)
			if e != api.OK {
				return nil, e
			}
			for _, sort := range sorts {
				needs[sort]++
			}
		}
	}
	return needs, api.OK
}

// Parted: see the chapter.
func Parted(f api.Fount, r api.TextRules, w api.TextPlace) ([2][]int, api.Errno) {
	s, e := setterFor(f, r, w.Word)
	if e != api.OK {
		return [2][]int{}, e
	}
	if !slices.Contains(s.book.hyphens(w.Word), w.Place) {
		return [2][]int{}, api.ErrBreak
	}
	ahead, e := sortsOf(s.pieceOf(w.Word, 0, w.Place).longest())
	if e != api.OK {
		return [2][]int{}, e
	}
	hyphen, e := fount.Printing(f, "-")
	if e != api.OK {
		return [2][]int{}, e
	}
	behind, e := sortsOf(s.pieceOf(w.Word, w.Place, len(w.Word)).longest())
	if e != api.OK {
		return [2][]int{}, e
	}
	return [2][]int{append(ahead, hyphen), behind}, api.OK
}
