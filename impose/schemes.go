package impose

import (
	"slices"

	"tympan/api"
)

// mostFolded is how many cells a scheme may have for which folds are looked for.
const mostFolded = 16

// CheckScheme: see the chapter.
func CheckScheme(s api.ImposeScheme) (int, api.Errno) {
	if e := sizeOfScheme(s).errorOfCells(len(s.Cells)); e != api.OK {
		return 0, e
	}
	pages := 2 * len(s.Cells)
	isThere := make([]bool, pages+1)
	for i, cell := range s.Cells {
		if !arePages(pages, frontOf(cell), backOf(cell)) {
			return i, api.ErrRange
		}
		if isThere[cell.Front] || isThere[cell.Back] || cell.Front == cell.Back {
			return i, api.ErrDouble
		}
		isThere[cell.Front], isThere[cell.Back] = true, true
	}
	return 0, api.OK
}

func sizeOfScheme(s api.ImposeScheme) size {
	return size{s.Columns, s.Rows}
}

// Reads: see the chapter.
func Reads(s api.ImposeScheme, folds []api.ImposeFold) ([]api.ImposePage, api.Errno) {
	if _, e := CheckScheme(s); e != api.OK {
		return nil, e
	}
	leaves, e := Pile([2]int{s.Columns, s.Rows}, folds)
	if e != api.OK {
		return nil, e
	}
	return pagesOf(s, leaves), api.OK
}

// pagesOf returns the pages of leaves of a scheme that lie on each other.
func pagesOf(s api.ImposeScheme, leaves []api.ImposeLeaf) []api.ImposePage {
	var pages []api.ImposePage
	for _, leaf := range leaves {
		cell := s.Cells[sizeOfScheme(s).at(leaf.Column, leaf.Row)]
		up, below := frontOf(cell), backOf(cell)
		if leaf.Over == 1 {
			up, below = below, up
		}
		pages = append(pages, turned(up, leaf.Round), turned(below, leaf.Round))
	}
	return pages
}

// folding is a pile, and the folds that made it.
type folding struct {
	pile
	folds []api.ImposeFold
}

// FoldsFor: see the chapter.
func FoldsFor(s api.ImposeScheme) ([]api.ImposeFold, api.Errno) {
	if _, e := CheckScheme(s); e != api.OK {
		return nil, e
	}
	if len(s.Cells) > mostFolded {
		return nil, api.ErrLarge
	}
	// All foldings with a number of folds are looked at, in the order of their folds, ahead of those
	// with one more; each fold leaves fewer places.
	foldings := []folding{{pile: flat(sizeOfScheme(s))}}
	for len(foldings) > 0 {
		var next []folding
		for _, f := range foldings {
			if !f.mayBeRead(s) {
				continue
			}
			if f.isRead(s) {
				return f.folds, api.OK
			}
			next = append(next, f.oneMore()...)
		}
		foldings = next
	}
	return nil, api.ErrNone
}

// mayBeRead tells whether the pages at each place follow each other, up or down: what lies on each
// other stays so, and is turned over as a whole.
func (f folding) mayBeRead(s api.ImposeScheme) bool {
	for _, leaves := range f.places {
		pages := pagesOf(s, leaves)
		step := pages[1].Page - pages[0].Page
		if step != 1 && step != -1 {
			return false
		}
		for i, page := range pages {
			if page.Page != pages[0].Page+i*step {
				return false
			}
		}
	}
	return true
}

// isRead tells whether all is folded, and reads 1, 2, 3 and so on, all upright.
func (f folding) isRead(s api.ImposeScheme) bool {
	if f.cells() > 1 {
		return false
	}
	for i, page := range pagesOf(s, f.places[0]) {
		if page.Page != i+1 || page.Turn != 0 {
			return false
		}
	}
	return true
}

// oneMore returns the foldings with one fold more that lays columns, or rows, over, in their order.
func (f folding) oneMore() []folding {
	var more []folding
	for kind := api.FoldLeft; kind <= api.FoldDown; kind++ {
		for i := range f.along(kind) / 2 {
			fold := api.ImposeFold{Kind: kind, Count: i + 1}
			more = append(more, folding{f.folded(fold), append(slices.Clone(f.folds), fold)})
		}
	}
	return more
}
