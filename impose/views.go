package impose

import "tympan/api"

// FrontView: see the chapter.
func FrontView(s api.ImposeScheme) (api.ImposeView, api.Errno) {
	if _, e := CheckScheme(s); e != api.OK {
		return api.ImposeView{}, e
	}
	v := blank(sizeOfScheme(s))
	for at, cell := range s.Cells {
		v.Pages[at] = frontOf(cell)
	}
	return v, api.OK
}

// BackView: see the chapter.
func BackView(s api.ImposeScheme) (api.ImposeView, api.Errno) {
	if _, e := CheckScheme(s); e != api.OK {
		return api.ImposeView{}, e
	}
	v := blank(sizeOfScheme(s))
	for at, cell := range s.Cells {
		v.Pages[sizeOfScheme(s).opposite(at, false)] = backOf(cell)
	}
	return v, api.OK
}

// blank returns a view without pages as yet.
func blank(s size) api.ImposeView {
	return api.ImposeView{Columns: s.columns, Rows: s.rows, Pages: make([]api.ImposePage, s.cells())}
}

// Combined: see the chapter.
func Combined(s api.ImposeScheme, tumble bool) (api.ImposeView, api.Errno) {
	if _, e := CheckScheme(s); e != api.OK {
		return api.ImposeView{}, e
	}
	half := sizeOfScheme(s)
	both := size{2 * s.Columns, s.Rows}
	if tumble {
		both = size{s.Columns, 2 * s.Rows}
	}
	if both.errorOfSides() != api.OK {
		return api.ImposeView{}, api.ErrLarge
	}
	v := blank(both)
	for row := range s.Rows {
		for column := range s.Columns {
			cell := s.Cells[half.at(column, row)]
			at := both.at(column, row)
			v.Pages[at] = frontOf(cell)
			v.Pages[both.opposite(at, tumble)] = turned(backOf(cell), roundIf(tumble))
		}
	}
	return v, api.OK
}

// roundIf returns 1 if a sheet is turned over from top to bottom: pages on its back, as they are seen
// from left to right, are turned round by this.
func roundIf(down bool) int {
	if down {
		return 1
	}
	return 0
}

// PrintedTwice: see the chapter.
func PrintedTwice(v api.ImposeView, tumble bool) (api.ImposeScheme, api.Errno) {
	s := size{v.Columns, v.Rows}
	if e := s.errorOfCells(len(v.Pages)); e != api.OK {
		return api.ImposeScheme{}, e
	}
	if !arePages(api.MaxBookPages, v.Pages...) {
		return api.ImposeScheme{}, api.ErrRange
	}
	cells := make([]api.ImposeCell, s.cells())
	for at, page := range v.Pages {
		back := turned(v.Pages[s.opposite(at, tumble)], roundIf(tumble))
		cells[at] = cellOf(page, back)
	}
	return api.ImposeScheme{Columns: s.columns, Rows: s.rows, Cells: cells}, api.OK
}

// Halves: see the chapter.
func Halves(s api.ImposeScheme, down bool) ([2]api.ImposeScheme, api.Errno) {
	whole := sizeOfScheme(s)
	if e := whole.errorOfCells(len(s.Cells)); e != api.OK {
		return [2]api.ImposeScheme{}, e
	}
	for _, cell := range s.Cells {
		if !arePages(api.MaxBookPages, frontOf(cell), backOf(cell)) {
			return [2]api.ImposeScheme{}, api.ErrRange
		}
	}
	half, isEven := whole.half(down)
	if !isEven {
		return [2]api.ImposeScheme{}, api.ErrOpen
	}
	first := api.ImposeScheme{Columns: half.columns, Rows: half.rows}
	second := first
	for row := range half.rows {
		for column := range half.columns {
			at := whole.at(column, row)
			first.Cells = append(first.Cells, s.Cells[at])
			second.Cells = append(second.Cells, overturned(s.Cells[whole.opposite(at, down)], down))
		}
	}
	return [2]api.ImposeScheme{first, second}, api.OK
}

// half returns the size of the left half, or (down) of the upper half, and whether there is one.
func (s size) half(down bool) (size, bool) {
	if down {
		return size{s.columns, s.rows / 2}, s.rows%2 == 0
	}
	return size{s.columns / 2, s.rows}, s.columns%2 == 0
}

// overturned returns a cell as it is seen if its sheet is turned over.
func overturned(cell api.ImposeCell, down bool) api.ImposeCell {
	round := roundIf(down)
	return cellOf(turned(backOf(cell), round), turned(frontOf(cell), round))
}
