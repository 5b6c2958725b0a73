package forme

import (
	"cmp"
	"slices"

	"tympan/api"
)

// FirstGap: see the chapter.
func FirstGap(f api.Forme) ([2]int, api.Errno) {
	if _, e := CheckForme(f); e != api.OK {
		return [2]int{}, e
	}
	for _, y := range rowsBelow(f) {
		if x := firstGapIn(f, y); x < f.Width {
			return [2]int{x, y}, api.OK
		}
	}
	return [2]int{}, api.ErrNone
}

// rowsBelow returns the rows that may have a gap while the row above has none: the top one, and those
// below pieces, from the top.
func rowsBelow(f api.Forme) []int {
	rows := []int{0}
	for _, p := range f.Pieces {
		if y := rowsOf(p).to; y < f.Height {
			rows = append(rows, y)
		}
	}
	slices.Sort(rows)
	return rows
}

// firstGapIn returns the first column of a row that is not covered, or the one behind the last.
func firstGapIn(f api.Forme, y int) int {
	x := 0
	for _, i := range rowOf(f, y) {
		columns := columnsOf(f.Pieces[i])
		if columns.from > x {
			break
		}
		x = columns.to
	}
	return x
}

// PieceAt: see the chapter.
func PieceAt(f api.Forme, x, y int) (int, api.Errno) {
	if _, e := CheckForme(f); e != api.OK {
		return 0, e
	}
	if !isFrom(0, f.Width-1, x) || !isFrom(0, f.Height-1, y) {
		return 0, api.ErrRange
	}
	for i, p := range f.Pieces {
		if columnsOf(p).has(x) && rowsOf(p).has(y) {
			return i, api.OK
		}
	}
	return 0, api.ErrNone
}

// RowAt: see the chapter.
func RowAt(f api.Forme, y int) ([]int, api.Errno) {
	if _, e := CheckForme(f); e != api.OK {
		return nil, e
	}
	if !isFrom(0, f.Height-1, y) {
		return nil, api.ErrRange
	}
	return rowOf(f, y), api.OK
}

// ColumnAt: see the chapter.
func ColumnAt(f api.Forme, x int) ([]int, api.Errno) {
	if _, e := CheckForme(f); e != api.OK {
		return nil, e
	}
	if !isFrom(0, f.Width-1, x) {
		return nil, api.ErrRange
	}
	return rowOf(transposed(f), x), api.OK
}

// rowOf returns the pieces that cover points of a row, from the left.
func rowOf(f api.Forme, y int) []int {
	var row []int
	for i, p := range f.Pieces {
		if rowsOf(p).has(y) {
			row = append(row, i)
		}
	}
	sortFromLeft(f, row)
	return row
}

// sortFromLeft puts pieces in the order in which they begin.
func sortFromLeft(f api.Forme, pieces []int) {
	slices.SortStableFunc(pieces, func(a, b int) int {
		return cmp.Compare(f.Pieces[a].X, f.Pieces[b].X)
	})
}
