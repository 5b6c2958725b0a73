package page

import (
	"iter"

	"tympan/api"
)

// book is a galley without errors, with rules for its pages.
type book struct {
	api.PageGalley
	api.PageRules
}

// bookOf returns the book of arguments, or their error.
func bookOf(g api.PageGalley, r api.PageRules) (book, api.Errno) {
	if _, e := CheckGalley(g); e != api.OK {
		return book{}, e
	}
	if e := CheckRules(r); e != api.OK {
		return book{}, e
	}
	return book{g, r}, api.OK
}

// UsedBy: see the chapter.
func UsedBy(g api.PageGalley, r api.PageRules, at [2]int) (int, api.Errno) {
	b, e := bookOf(g, r)
	if e != api.OK {
		return 0, e
	}
	if e := errorOfPage(g, at); e != api.OK {
		return 0, e
	}
	return b.used(b.core(at[0], at[1])), api.OK
}

// NotesOn: see the chapter.
func NotesOn(g api.PageGalley, at [2]int) ([]int, api.Errno) {
	if _, e := CheckGalley(g); e != api.OK {
		return nil, e
	}
	if e := errorOfPage(g, at); e != api.OK {
		return nil, e
	}
	var notes []int
	for _, item := range g.Items[at[0]:at[1]] {
		if callsNote(item) {
			notes = append(notes, item.Note)
		}
	}
	return notes, api.OK
}

// CostOf: see the chapter.
func CostOf(g api.PageGalley, r api.PageRules, at [2]int) (int, api.Errno) {
	b, e := bookOf(g, r)
	if e != api.OK {
		return 0, e
	}
	if e := errorOfPage(g, at); e != api.OK {
		return 0, e
	}
	return b.cost(at[0], at[1])
}

func errorOfPage(g api.PageGalley, at [2]int) api.Errno {
	end := len(g.Items)
	if !isFrom(0, end-1, at[0]) || !isFrom(at[0]+1, end, at[1]) {
		return api.ErrRange
	}
	return api.OK
}

// end is the place behind the last item.
func (b book) end() int {
	return len(b.Items)
}

// core returns the items of a page from its first one that is no gap to its last one that is none.
func (b book) core(from, to int) []api.PageItem {
	for from < to && b.Items[from].Kind == api.PageGap {
		from++
	}
	for from < to && b.Items[to-1].Kind == api.PageGap {
		to--
	}
	return b.Items[from:to]
}

// used returns what a page with this core uses.
func (b book) used(core []api.PageItem) int {
	used, notes := 0, 0
	for _, item := range core {
		used += item.Height
		if callsNote(item) {
			used += b.Notes[item.Note]
			notes++
		}
	}
	if notes > 0 {
		used += b.NoteGap
	}
	return used
}

// cost returns the cost of a page, or the error with which it is not possible.
func (b book) cost(from, to int) (int, api.Errno) {
	core := b.core(from, to)
	if len(core) == 0 {
		return 0, api.ErrForm
	}
	left := b.Height - b.used(core)
	if left < 0 {
		return 0, api.ErrBreak
	}
	first, last := core[0], core[len(core)-1]
	isLast := to == b.end()
	if last.Kind == api.PageHeading && !isLast {
		return 0, api.ErrKind
	}
	cost := 0
	if !isLast {
		cost = left * left
	}
	if isOrphan(last) {
		cost += b.Orphan
	}
	if isWidow(first) {
		cost += b.Widow
	}
	return cost, api.OK
}

// isOrphan tells whether an item is the first one of several lines of a paragraph.
func isOrphan(item api.PageItem) bool {
	return item.Kind == api.PageText && item.Of > 1 && item.Line == 1
}

// isWidow tells whether an item is the last one of several lines of a paragraph.
func isWidow(item api.PageItem) bool {
	return item.Kind == api.PageText && item.Of > 1 && item.Line == item.Of
}

// possibleFrom yields the possible pages from a place: where each one ends, and its cost.
func (b book) possibleFrom(from int) iter.Seq2[int, int] {
	return func(yield func(to, cost int) bool) {
		for to := from + 1; to <= b.end(); to++ {
			cost, e := b.cost(from, to)
			if e == api.ErrBreak {
				// A longer page does not use less.
				return
			}
			if e == api.OK && !yield(to, cost) {
				return
			}
		}
	}
}
