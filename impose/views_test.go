package impose_test

import (
	"testing"

	"tympan/api"
	"tympan/impose"
)

// P6.3: the views of the chapter, and of one row with turns.
func TestViews(t *testing.T) {
	mixed := schemeOf(3, 1, [4]int{1, 0, 2, 1}, [4]int{6, 1, 3, 0}, [4]int{4, 1, 5, 1})
	for _, c := range []struct {
		what        string
		s           api.ImposeScheme
		front, back api.ImposeView
	}{
		{"example 3", quarto(), viewOf(2, 2, 7, 0, 6, 0, 2, 1, 3, 1), viewOf(2, 2, 5, 0, 8, 0, 4, 1, 1, 1)},
		{"example 1", pair(), viewOf(2, 1, 3, 0, 2, 0), viewOf(2, 1, 1, 0, 4, 0)},
		{"one cell", strip(1, 1), viewOf(1, 1, 1, 0), viewOf(1, 1, 2, 0)},
		{"one column", strip(1, 3), viewOf(1, 3, 1, 0, 3, 0, 5, 0), viewOf(1, 3, 2, 0, 4, 0, 6, 0)},
		{"three columns", mixed, viewOf(3, 1, 1, 0, 6, 1, 4, 1), viewOf(3, 1, 5, 1, 3, 0, 2, 1)},
	} {
		v, e := impose.FrontView(c.s)
		want(t, "FrontView, "+c.what, v, e, c.front, api.OK)
		v, e = impose.BackView(c.s)
		want(t, "BackView, "+c.what, v, e, c.back, api.OK)
	}
}

// P6.3: both sides in one view.
func TestCombined(t *testing.T) {
	mixed := schemeOf(2, 1, [4]int{1, 0, 2, 1}, [4]int{4, 1, 3, 0})
	for _, c := range []struct {
		what   string
		s      api.ImposeScheme
		tumble bool
		v      api.ImposeView
		e      api.Errno
	}{
		{"example 4", pair(), false, viewOf(4, 1, 3, 0, 2, 0, 1, 0, 4, 0), api.OK},
		{"example 1 tumbled", pair(), true, viewOf(2, 2, 3, 0, 2, 0, 4, 1, 1, 1), api.OK},
		{"turns", mixed, false, viewOf(4, 1, 1, 0, 4, 1, 3, 0, 2, 1), api.OK},
		{"turns tumbled", mixed, true, viewOf(2, 2, 1, 0, 4, 1, 2, 0, 3, 1), api.OK},
		{"example 2", quarto(), false, viewOf(4, 2, 7, 0, 6, 0, 5, 0, 8, 0, 2, 1, 3, 1, 4, 1, 1, 1), api.OK},
		{"example 2 tumbled", quarto(), true, viewOf(2, 4, 7, 0, 6, 0, 2, 1, 3, 1, 1, 0, 4, 0, 8, 1, 5, 1), api.OK},
		{"5 columns", strip(5, 1), false, api.ImposeView{}, api.ErrLarge},
		{"8 columns", strip(8, 1), false, api.ImposeView{}, api.ErrLarge},
		{"5 rows", strip(1, 5), true, api.ImposeView{}, api.ErrLarge},
		{"20 cells", strip(4, 5), false, api.ImposeView{}, api.ErrLarge},
		{"20 cells tumbled", strip(5, 4), true, api.ImposeView{}, api.ErrLarge},
		{"18 cells", strip(3, 6), false, api.ImposeView{}, api.ErrLarge},
		{"18 cells tumbled", strip(6, 3), true, api.ImposeView{}, api.ErrLarge},
	} {
		v, e := impose.Combined(c.s, c.tumble)
		want(t, "Combined, "+c.what, v, e, c.v, c.e)
	}
	for _, c := range []struct {
		sheet  [2]int
		tumble bool
	}{{[2]int{4, 4}, false}, {[2]int{4, 4}, true}, {[2]int{8, 2}, true}, {[2]int{2, 8}, false}, {[2]int{5, 1}, true}, {[2]int{1, 5}, false}} {
		if _, e := impose.Combined(strip(c.sheet[0], c.sheet[1]), c.tumble); e != api.OK {
			t.Errorf("Combined of %v, %v: error %d", c.sheet, c.tumble, e)
		}
	}
}

// P6.3: views that are printed twice, with an odd number of columns or rows, too.
func TestPrintedTwice(t *testing.T) {
	for _, c := range []struct {
		what   string
		v      api.ImposeView
		tumble bool
		s      api.ImposeScheme
	}{
		{"example 4", viewOf(4, 1, 3, 0, 2, 0, 1, 0, 4, 0), false, schemeOf(4, 1, [4]int{3, 0, 4, 0}, [4]int{2, 0, 1, 0}, [4]int{1, 0, 2, 0}, [4]int{4, 0, 3, 0})},
		{"turns", viewOf(2, 1, 3, 1, 9, 0), false, schemeOf(2, 1, [4]int{3, 1, 9, 0}, [4]int{9, 0, 3, 1})},
		{"rows turned", viewOf(1, 2, 3, 1, 9, 0), false, schemeOf(1, 2, [4]int{3, 1, 3, 1}, [4]int{9, 0, 9, 0})},
		{"rows tumbled", viewOf(1, 2, 3, 1, 9, 1), true, schemeOf(1, 2, [4]int{3, 1, 9, 0}, [4]int{9, 1, 3, 0})},
		{"columns tumbled", viewOf(2, 1, 3, 1, 4000, 0), true, schemeOf(2, 1, [4]int{3, 1, 3, 0}, [4]int{4000, 0, 4000, 1})},
		{"three columns", viewOf(3, 1, 1, 0, 2, 1, 3, 1), false, schemeOf(3, 1, [4]int{1, 0, 3, 1}, [4]int{2, 1, 2, 1}, [4]int{3, 1, 1, 0})},
		{"three rows", viewOf(1, 3, 1, 0, 2, 1, 3, 1), true, schemeOf(1, 3, [4]int{1, 0, 3, 0}, [4]int{2, 1, 2, 0}, [4]int{3, 1, 1, 1})},
		{"one page", viewOf(1, 1, 7, 0), false, schemeOf(1, 1, [4]int{7, 0, 7, 0})},
		{"one page tumbled", viewOf(1, 1, 7, 0), true, schemeOf(1, 1, [4]int{7, 0, 7, 1})},
	} {
		s, e := impose.PrintedTwice(c.v, c.tumble)
		want(t, "PrintedTwice, "+c.what, s, e, c.s, api.OK)
	}
}

// P6.3: what is wrong with a view, or with a sheet that has any pages of a book.
func TestWrongCells(t *testing.T) {
	for _, tumble := range []bool{false, true} {
		for _, c := range wrongSheets() {
			v := api.ImposeView{Columns: c.s.Columns, Rows: c.s.Rows, Pages: make([]api.ImposePage, len(c.s.Cells))}
			s, e := impose.PrintedTwice(v, tumble)
			want(t, "PrintedTwice, "+c.what, s, e, api.ImposeScheme{}, c.e)
			c.s.Cells = make([]api.ImposeCell, len(c.s.Cells))
			halves, e := impose.Halves(c.s, tumble)
			want(t, "Halves, "+c.what, halves, e, [2]api.ImposeScheme{}, c.e)
		}
		for _, page := range []api.ImposePage{{Page: 0}, {Page: -1}, {Page: 4001}, {Page: great}, {Page: small}, {Page: 1, Turn: 2}, {Page: 1, Turn: -1}, {Page: 1, Turn: great}} {
			for at := range 9 {
				v := newMaker(7).view([2]int{3, 3})
				v.Pages[at] = page
				s, e := impose.PrintedTwice(v, tumble)
				want(t, "PrintedTwice of a wrong page", s, e, api.ImposeScheme{}, api.ErrRange)
				for _, isBack := range []bool{false, true} {
					// Three columns and rows have no halves either.
					s := newMaker(7).cells([2]int{3, 3})
					cell := &s.Cells[at]
					if cell.Front, cell.FrontTurn = page.Page, page.Turn; isBack {
						cell.Front, cell.FrontTurn, cell.Back, cell.BackTurn = 1, 0, page.Page, page.Turn
					}
					halves, e := impose.Halves(s, tumble)
					want(t, "Halves of a wrong page", halves, e, [2]api.ImposeScheme{}, api.ErrRange)
				}
			}
		}
	}
	for _, c := range wrongSchemes() {
		for _, tumble := range []bool{false, true} {
			v, e := impose.Combined(c.s, tumble)
			want(t, "Combined, "+c.what, v, e, api.ImposeView{}, c.e)
		}
		v, e := impose.FrontView(c.s)
		want(t, "FrontView, "+c.what, v, e, api.ImposeView{}, c.e)
		v, e = impose.BackView(c.s)
		want(t, "BackView, "+c.what, v, e, api.ImposeView{}, c.e)
	}
}

// P6.3: halves of sheets, the second one as it is seen turned over.
func TestHalves(t *testing.T) {
	four := schemeOf(2, 2, [4]int{1, 0, 2, 0}, [4]int{3, 0, 4, 1}, [4]int{5, 1, 6, 0}, [4]int{7, 1, 8, 1})
	row := schemeOf(4, 1, [4]int{1, 0, 2, 0}, [4]int{1, 0, 2, 0}, [4]int{3, 1, 4, 0}, [4]int{4000, 0, 6, 1})
	column := schemeOf(1, 4, [4]int{1, 0, 2, 0}, [4]int{1, 0, 2, 0}, [4]int{3, 1, 4, 0}, [4]int{5, 0, 4000, 1})
	for _, c := range []struct {
		what   string
		s      api.ImposeScheme
		down   bool
		halves [2]api.ImposeScheme
		e      api.Errno
	}{
		{"four cells", four, false, [2]api.ImposeScheme{
			schemeOf(1, 2, [4]int{1, 0, 2, 0}, [4]int{5, 1, 6, 0}),
			schemeOf(1, 2, [4]int{4, 1, 3, 0}, [4]int{8, 1, 7, 1}),
		}, api.OK},
		{"four cells, down", four, true, [2]api.ImposeScheme{
			schemeOf(2, 1, [4]int{1, 0, 2, 0}, [4]int{3, 0, 4, 1}),
			schemeOf(2, 1, [4]int{6, 1, 5, 0}, [4]int{8, 0, 7, 0}),
		}, api.OK},
		{"a row", row, false, [2]api.ImposeScheme{
			schemeOf(2, 1, [4]int{1, 0, 2, 0}, [4]int{1, 0, 2, 0}),
			schemeOf(2, 1, [4]int{6, 1, 4000, 0}, [4]int{4, 0, 3, 1}),
		}, api.OK},
		{"a column, down", column, true, [2]api.ImposeScheme{
			schemeOf(1, 2, [4]int{1, 0, 2, 0}, [4]int{1, 0, 2, 0}),
			schemeOf(1, 2, [4]int{4000, 0, 5, 1}, [4]int{4, 1, 3, 0}),
		}, api.OK},
		{"a row, down", row, true, [2]api.ImposeScheme{}, api.ErrOpen},
		{"a column", column, false, [2]api.ImposeScheme{}, api.ErrOpen},
		{"three columns", strip(3, 2), false, [2]api.ImposeScheme{}, api.ErrOpen},
		{"three rows, down", strip(2, 3), true, [2]api.ImposeScheme{}, api.ErrOpen},
		{"one cell", strip(1, 1), false, [2]api.ImposeScheme{}, api.ErrOpen},
	} {
		halves, e := impose.Halves(c.s, c.down)
		want(t, "Halves, "+c.what, halves, e, c.halves, c.e)
	}
}

// P6.8: both halves of what Combined prints twice are the scheme.
func TestWorkAndTurn(t *testing.T) {
	m := newMaker(8)
	for range 2000 {
		s, tumble := m.scheme(m.sheet(16)), m.Intn(2) == 0
		v, e := impose.Combined(s, tumble)
		if most := max(2*s.Columns, s.Rows); tumble && 2*s.Rows > 8 || !tumble && most > 8 {
			want(t, "Combined of much", v, e, api.ImposeView{}, api.ErrLarge)
			continue
		}
		twice, e := impose.PrintedTwice(v, tumble)
		if e != api.OK {
			t.Fatalf("PrintedTwice of %v: error %d", v, e)
		}
		halves, e := impose.Halves(twice, tumble)
		want(t, "Halves of both sides", halves, e, [2]api.ImposeScheme{s, s}, api.OK)
	}
}

// turnedOver is a scheme as it is seen from behind, by the definition.
func turnedOver(s api.ImposeScheme) api.ImposeScheme {
	return changed(s, func(s *api.ImposeScheme) {
		cells := s.Cells
		s.Cells = nil
		for i := range cells {
			c := cells[i-i%s.Columns+s.Columns-1-i%s.Columns]
			s.Cells = append(s.Cells, api.ImposeCell{Front: c.Back, FrontTurn: c.BackTurn, Back: c.Front, BackTurn: c.FrontTurn})
		}
	})
}

// P6.3, P6.8: the back view of a sheet turned over is its front view.
func TestTurnedOver(t *testing.T) {
	m := newMaker(9)
	for range 500 {
		s := m.scheme(m.sheet(32))
		front, _ := impose.FrontView(s)
		back, e := impose.BackView(turnedOver(s))
		want(t, "BackView of a sheet turned over", back, e, front, api.OK)
		for i, page := range front.Pages {
			want(t, "a page of FrontView", page, api.OK, pagesOf(s.Cells[i].Front, s.Cells[i].FrontTurn)[0], api.OK)
		}
	}
}

// P6.3: made views printed twice, and made sheets in halves, cell by cell.
func TestMadeCells(t *testing.T) {
	m := newMaker(10)
	other := func(page api.ImposePage, isOther bool) api.ImposePage {
		if isOther {
			page.Turn = 1 - page.Turn
		}
		return page
	}
	for range 1000 {
		v, tumble := m.view(m.sheet(32)), m.Intn(2) == 0
		s, e := impose.PrintedTwice(v, tumble)
		if e != api.OK || s.Columns != v.Columns || s.Rows != v.Rows || len(s.Cells) != len(v.Pages) {
			t.Fatalf("PrintedTwice of %v: %v, error %d", v, s, e)
		}
		for c := range v.Columns {
			for r := range v.Rows {
				behind := v.Pages[r*v.Columns+v.Columns-1-c]
				if tumble {
					behind = v.Pages[(v.Rows-1-r)*v.Columns+c]
				}
				cell := s.Cells[r*v.Columns+c]
				want(t, "a front of PrintedTwice", pagesOf(cell.Front, cell.FrontTurn)[0], api.OK, v.Pages[r*v.Columns+c], api.OK)
				want(t, "a back of PrintedTwice", pagesOf(cell.Back, cell.BackTurn)[0], api.OK, other(behind, tumble), api.OK)
			}
		}
		whole := m.cells(m.sheet(32))
		halves, e := impose.Halves(whole, tumble)
		if sides := map[bool]int{false: whole.Columns, true: whole.Rows}[tumble]; sides%2 == 1 {
			want(t, "Halves of odd sides", halves, e, [2]api.ImposeScheme{}, api.ErrOpen)
			continue
		}
		if len(halves[0].Cells) != len(whole.Cells)/2 || len(halves[1].Cells) != len(whole.Cells)/2 {
			t.Fatalf("Halves of %v: %v, error %d", whole, halves, e)
		}
		for i, first := range halves[0].Cells {
			c, r := i%halves[0].Columns, i/halves[0].Columns
			want(t, "a cell of the first half", first, api.OK, whole.Cells[r*whole.Columns+c], api.OK)
			from := whole.Cells[r*whole.Columns+whole.Columns-1-c]
			if tumble {
				from = whole.Cells[(whole.Rows-1-r)*whole.Columns+c]
			}
			second := halves[1].Cells[i]
			want(t, "a front of the second half", pagesOf(second.Front, second.FrontTurn)[0], api.OK, other(pagesOf(from.Back, from.BackTurn)[0], tumble), api.OK)
			want(t, "a back of the second half", pagesOf(second.Back, second.BackTurn)[0], api.OK, other(pagesOf(from.Front, from.FrontTurn)[0], tumble), api.OK)
		}
	}
}
