package line

import (
	"cmp"
	"slices"

	"tympan/api"
	"tympan/fount"
)

// Spread: see the chapter.
func Spread(f api.Fount, counts []int, gaps int) ([][]int, api.Errno) {
	if e := fount.CheckCase(f, counts); e != api.OK {
		return nil, e
	}
	number := 0
	for sort, count := range counts {
		if count != 0 && !isSpace(f, sort) {
			return nil, api.ErrKind
		}
		number += count
	}
	if gaps < 0 || gaps > api.MaxLineWords-1 {
		return nil, api.ErrRange
	}
	if number < gaps || number > gaps*api.MaxGapSpaces {
		return nil, api.ErrShape
	}
	return spread(f, rowOf(f, counts), gaps), api.OK
}

// rowOf returns sorts that have been counted: the widest ones first, of equal widths those with the
// lesser number first.
func rowOf(f api.Fount, counts []int) []int {
	var row []int
	for sort, count := range counts {
		row = append(row, slices.Repeat([]int{sort}, count)...)
	}
	slices.SortStableFunc(row, func(a, b int) int {
		return cmp.Compare(f.Sorts[b].Width, f.Sorts[a].Width)
	})
	return row
}

// spread puts spaces, one after the other, into gaps that have room for all of them.
func spread(f api.Fount, row []int, gaps int) [][]int {
	filled, widths := make([][]int, gaps), make([]int, gaps)
	for _, sort := range row {
		gap := -1
		for i := range gaps {
			if len(filled[i]) < api.MaxGapSpaces && (gap < 0 || widths[i] < widths[gap]) {
				gap = i
			}
		}
		filled[gap] = append(filled[gap], sort)
		widths[gap] += f.Sorts[sort].Width
	}
	return filled
}

// Justify: see the chapter.
func Justify(t api.LineTask) (api.TypeLine, api.Errno) {
	counts, e := Choose(t)
	if e != api.OK {
		return api.TypeLine{}, e
	}
	gaps, e := Spread(t.Fount, counts, gapsBetween(t.Words))
	if e != api.OK {
		return api.TypeLine{}, e
	}
	return api.TypeLine{Measure: t.Measure, Sorts: slices.Concat(t.Indent, between(t.Words, gaps))}, api.OK
}

// between returns the sorts of words with those of the gaps between them.
func between(words, gaps [][]int) []int {
	var sorts []int
	for i, word := range words {
		if i > 0 {
			sorts = append(sorts, gaps[i-1]...)
		}
		sorts = append(sorts, word...)
	}
	return sorts
}

// CheckLine: see the chapter.
func CheckLine(t api.LineTask, l api.TypeLine) api.Errno {
	if e := CheckTask(t); e != api.OK {
		return e
	}
	if e := errorOfLine(t.Fount, l); e != api.OK {
		return e
	}
	if l.Measure != t.Measure {
		return api.ErrUnit
	}
	if !isShaped(t, l.Sorts) {
		return api.ErrShape
	}
	if _, e := taken(t.Fount, t.Case, l.Sorts...); e != api.OK {
		return e
	}
	if measured(t.Fount, l.Sorts...) != l.Measure {
		return api.ErrSum
	}
	return api.OK
}

// isShaped tells whether sorts are the indent, and the words with right gaps between them.
func isShaped(t api.LineTask, sorts []int) bool {
	ahead := len(t.Indent)
	if len(sorts) < ahead || !slices.Equal(sorts[:ahead], t.Indent) {
		return false
	}
	words := 0
	for r := range rows(t.Fount, sorts[ahead:]) {
		switch {
		case words == len(t.Words):
			return false
		case !r.isSpace:
			if !slices.Equal(r.sorts, t.Words[words]) {
				return false
			}
			words++
		case words == 0 || len(r.sorts) > api.MaxGapSpaces:
			return false
		}
	}
	return words == len(t.Words)
}

// LeftOf: see the chapter.
func LeftOf(t api.LineTask, l api.TypeLine) ([]int, api.Errno) {
	if e := CheckLine(t, l); e != api.OK {
		return nil, e
	}
	return taken(t.Fount, t.Case, l.Sorts...)
}
