package line

import (
	"iter"
	"slices"
	"strings"

	"tympan/api"
	"tympan/fount"
)

// errorOfLine tells what is wrong with a fount, or with a line of it.
func errorOfLine(f api.Fount, l api.TypeLine) api.Errno {
	if _, e := fount.CheckFount(f); e != api.OK {
		return e
	}
	if e := errorOfMeasure(l.Measure); e != api.OK {
		return e
	}
	if len(l.Sorts) > api.MaxLineSet {
		return api.ErrLarge
	}
	for _, sort := range l.Sorts {
		if !hasSort(f, sort) {
			return api.ErrMissing
		}
	}
	return api.OK
}

// row is sorts side by side that are all spaces, or all none.
type row struct {
	sorts   []int
	isSpace bool
}

// rows yields the longest rows of sorts of the fount, from left to right.
func rows(f api.Fount, sorts []int) iter.Seq[row] {
	return func(yield func(row) bool) {
		for from := 0; from < len(sorts); {
			r := row{isSpace: isSpace(f, sorts[from])}
			to := from + 1
			for to < len(sorts) && isSpace(f, sorts[to]) == r.isSpace {
				to++
			}
			r.sorts = sorts[from:to]
			if !yield(r) {
				return
			}
			from = to
		}
	}
}

// GapsOf: see the chapter.
func GapsOf(f api.Fount, l api.TypeLine) ([]int, api.Errno) {
	if e := errorOfLine(f, l); e != api.OK {
		return nil, e
	}
	var gaps []int
	hasWord, gap := false, 0
	for r := range rows(f, l.Sorts) {
		switch {
		case r.isSpace:
			gap = measured(f, r.sorts...)
		case hasWord:
			gaps = append(gaps, gap)
		default:
			hasWord = true
		}
	}
	return gaps, api.OK
}

// WordsOf: see the chapter.
func WordsOf(f api.Fount, l api.TypeLine) ([][]int, api.Errno) {
	if e := errorOfLine(f, l); e != api.OK {
		return nil, e
	}
	var words [][]int
	for r := range rows(f, l.Sorts) {
		if !r.isSpace {
			words = append(words, slices.Clone(r.sorts))
		}
	}
	return words, api.OK
}

// CopyOf: see the chapter.
func CopyOf(f api.Fount, l api.TypeLine) (string, api.Errno) {
	words, e := WordsOf(f, l)
	if e != api.OK {
		return "", e
	}
	printed := make([]string, len(words))
	for i, word := range words {
		if printed[i], e = fount.TextOf(f, word); e != api.OK {
			return "", e
		}
	}
	return strings.Join(printed, " "), api.OK
}
