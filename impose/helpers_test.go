package impose_test

import (
	"cmp"
	"math/rand"
	"reflect"
	"slices"
	"testing"

	"tympan/api"
	"tympan/impose"
)

// great is a number that no limit allows, small the least one of all.
const (
	great = 1<<63 - 1
	small = -great - 1
)

func left(count int) api.ImposeFold  { return api.ImposeFold{Kind: api.FoldLeft, Count: count} }
func right(count int) api.ImposeFold { return api.ImposeFold{Kind: api.FoldRight, Count: count} }
func up(count int) api.ImposeFold    { return api.ImposeFold{Kind: api.FoldUp, Count: count} }
func down(count int) api.ImposeFold  { return api.ImposeFold{Kind: api.FoldDown, Count: count} }
func over() api.ImposeFold           { return api.ImposeFold{Kind: api.FoldOver} }
func round() api.ImposeFold          { return api.ImposeFold{Kind: api.FoldRound} }

func folds(l ...api.ImposeFold) []api.ImposeFold { return l }

// schemeOf is a scheme with cells of four numbers each: a page and its turn on the front, and on the
// back.
func schemeOf(columns, rows int, cells ...[4]int) api.ImposeScheme {
	s := api.ImposeScheme{Columns: columns, Rows: rows}
	for _, c := range cells {
		s.Cells = append(s.Cells, api.ImposeCell{Front: c[0], FrontTurn: c[1], Back: c[2], BackTurn: c[3]})
	}
	return s
}

// pagesOf is pages with their turns, one behind the other.
func pagesOf(numbers ...int) []api.ImposePage {
	var pages []api.ImposePage
	for i := 0; i < len(numbers); i += 2 {
		pages = append(pages, api.ImposePage{Page: numbers[i], Turn: numbers[i+1]})
	}
	return pages
}

// viewOf is a view with pages and their turns, one behind the other.
func viewOf(columns, rows int, numbers ...int) api.ImposeView {
	return api.ImposeView{Columns: columns, Rows: rows, Pages: pagesOf(numbers...)}
}

// pair is the scheme of example 1, quarto that of example 2.
func pair() api.ImposeScheme {
	return schemeOf(2, 1, [4]int{3, 0, 4, 0}, [4]int{2, 0, 1, 0})
}

func quarto() api.ImposeScheme {
	return schemeOf(2, 2, [4]int{7, 0, 8, 0}, [4]int{6, 0, 5, 0}, [4]int{2, 1, 1, 1}, [4]int{3, 1, 4, 1})
}

// strip is a scheme of so many columns and rows with its pages as they come, all upright.
func strip(columns, rows int) api.ImposeScheme {
	s := api.ImposeScheme{Columns: columns, Rows: rows}
	for i := range columns * rows {
		s.Cells = append(s.Cells, api.ImposeCell{Front: 2*i + 1, Back: 2*i + 2})
	}
	return s
}

// changed is a scheme with something about it changed.
func changed(s api.ImposeScheme, how func(s *api.ImposeScheme)) api.ImposeScheme {
	s.Cells = slices.Clone(s.Cells)
	how(&s)
	return s
}

// wrongScheme is a scheme with its error, and the cell that has it.
type wrongScheme struct {
	what string
	s    api.ImposeScheme
	cell int
	e    api.Errno
}

// sized is the same cells with other sides.
func sized(columns, rows, cells int) api.ImposeScheme {
	s := strip(1, cells)
	s.Columns, s.Rows = columns, rows
	return s
}

// wrongSheets is what no sheet is, or has not the cells that it should have.
func wrongSheets() []wrongScheme {
	return []wrongScheme{
		{"nothing", api.ImposeScheme{}, 0, api.ErrRange},
		{"no columns", sized(0, 1, 1), 0, api.ErrRange},
		{"no rows", sized(1, 0, 1), 0, api.ErrRange},
		{"-1 columns", sized(-1, -1, 1), 0, api.ErrRange},
		{"9 columns", sized(9, 1, 9), 0, api.ErrRange},
		{"9 rows", sized(1, 9, 9), 0, api.ErrRange},
		{"9 columns of 9", sized(9, 9, 81), 0, api.ErrRange},
		{"great sides", sized(great, great, 1), 0, api.ErrRange},
		{"small sides", sized(1, small, 1), 0, api.ErrRange},
		{"40 cells", sized(8, 5, 40), 0, api.ErrLarge},
		{"35 cells", sized(5, 7, 3), 0, api.ErrLarge},
		{"64 cells", sized(8, 8, 64), 0, api.ErrLarge},
		{"too few cells", sized(2, 2, 3), 0, api.ErrShape},
		{"too many cells", sized(2, 2, 5), 0, api.ErrShape},
		{"no cells", sized(8, 4, 0), 0, api.ErrShape},
	}
}

// wrongSchemes is schemes with each error of CheckScheme, mostly with a later one, too.
func wrongSchemes() []wrongScheme {
	cell := func(i int, c [4]int) api.ImposeScheme {
		return changed(quarto(), func(s *api.ImposeScheme) { s.Cells[i] = schemeOf(1, 1, c).Cells[0] })
	}
	return append(wrongSheets(), []wrongScheme{
		{"front 0", cell(1, [4]int{0, 0, 5, 0}), 1, api.ErrRange},
		{"front 9", cell(1, [4]int{9, 0, 5, 0}), 1, api.ErrRange},
		{"back 0", cell(2, [4]int{2, 0, 0, 0}), 2, api.ErrRange},
		{"back 9", cell(2, [4]int{2, 0, 9, 0}), 2, api.ErrRange},
		{"back -1", cell(0, [4]int{7, 0, -1, 0}), 0, api.ErrRange},
		{"great front", cell(3, [4]int{great, 0, 4, 0}), 3, api.ErrRange},
		{"small back", cell(3, [4]int{3, 0, small, 0}), 3, api.ErrRange},
		{"turn 2 of the front", cell(3, [4]int{3, 2, 4, 0}), 3, api.ErrRange},
		{"turn -1 of the front", cell(3, [4]int{3, -1, 4, 0}), 3, api.ErrRange},
		{"turn 2 of the back", cell(0, [4]int{7, 0, 8, 2}), 0, api.ErrRange},
		{"turn -1 of the back", cell(0, [4]int{7, 0, 8, -1}), 0, api.ErrRange},
		{"front as a front", cell(3, [4]int{7, 0, 4, 0}), 3, api.ErrDouble},
		{"front as a back", cell(1, [4]int{8, 0, 5, 0}), 1, api.ErrDouble},
		{"back as a front", cell(2, [4]int{2, 0, 6, 0}), 2, api.ErrDouble},
		{"back as a back", cell(3, [4]int{3, 0, 1, 0}), 3, api.ErrDouble},
		{"front as its back", cell(2, [4]int{2, 0, 2, 0}), 2, api.ErrDouble},
		{"the range ahead of the double", cell(1, [4]int{7, 0, 9, 0}), 1, api.ErrRange},
		{"a double ahead of a later range", changed(quarto(), func(s *api.ImposeScheme) {
			s.Cells[1].Front, s.Cells[2].Back = 7, 9
		}), 1, api.ErrDouble},
	}...)
}

// wrongFolds is folds of a sheet of 3 columns and 2 rows, with their error, and the fold that has it.
func wrongFolds() []struct {
	what  string
	folds []api.ImposeFold
	fold  int
	e     api.Errno
} {
	kind := func(kind, count int) api.ImposeFold { return api.ImposeFold{Kind: kind, Count: count} }
	return []struct {
		what  string
		folds []api.ImposeFold
		fold  int
		e     api.Errno
	}{
		{"13 folds", slices.Repeat(folds(kind(9, 9)), 13), 0, api.ErrLarge},
		{"13 turns and the folds", append(slices.Repeat(folds(over()), 10), left(1), left(1), up(1)), 0, api.ErrLarge},
		{"the kind 0", folds(kind(0, 0)), 0, api.ErrKind},
		{"the kind 7", folds(left(1), kind(7, 1)), 1, api.ErrKind},
		{"the kind -1", folds(left(1), up(1), kind(-1, -1)), 2, api.ErrKind},
		{"the greatest kind", folds(kind(great, 1)), 0, api.ErrKind},
		{"the least kind", folds(kind(small, 1)), 0, api.ErrKind},
		{"1 turned over", folds(kind(api.FoldOver, 1)), 0, api.ErrRange},
		{"-1 turned over", folds(over(), kind(api.FoldOver, -1)), 1, api.ErrRange},
		{"1 turned round", folds(kind(api.FoldRound, 1)), 0, api.ErrRange},
		{"-1 turned round", folds(round(), kind(api.FoldRound, -1)), 1, api.ErrRange},
		{"0 to the left", folds(left(0)), 0, api.ErrRange},
		{"0 to the right", folds(right(0)), 0, api.ErrRange},
		{"0 upwards", folds(up(0)), 0, api.ErrRange},
		{"0 downwards", folds(down(0)), 0, api.ErrRange},
		{"-1 to the left", folds(left(-1)), 0, api.ErrRange},
		{"the least number downwards", folds(down(small)), 0, api.ErrRange},
		{"2 of 3 to the left", folds(left(2)), 0, api.ErrBreak},
		{"2 of 3 to the right", folds(right(2)), 0, api.ErrBreak},
		{"all to the left", folds(left(3)), 0, api.ErrBreak},
		{"the greatest number to the right", folds(right(great)), 0, api.ErrBreak},
		{"2 of 2 upwards", folds(up(2)), 0, api.ErrBreak},
		{"2 of 2 downwards", folds(over(), down(2)), 1, api.ErrBreak},
		{"the greatest number upwards", folds(up(great)), 0, api.ErrBreak},
		{"one more to the left", folds(left(1), left(1), left(1)), 2, api.ErrBreak},
		{"one more upwards", folds(down(1), right(1), up(1)), 2, api.ErrBreak},
		{"no folds", nil, 0, api.ErrOpen},
		{"one row left over", folds(left(1), right(1)), 2, api.ErrOpen},
		{"one column left over", folds(up(1), left(1), round()), 3, api.ErrOpen},
		{"what cannot be done ahead of what is open", folds(left(1), left(2)), 1, api.ErrBreak},
	}
}

// leaf is a leaf as it lies: its cell, where it is, how high, and how it is turned.
type leaf struct {
	cell        [2]int
	x, y, z     int
	over, round bool
}

// lying is the leaves of a sheet as it is folded, turned about as bodies: the definition of folds by
// places and heights.
type lying []*leaf

func flat(columns, rows int) lying {
	var l lying
	for y := range rows {
		for x := range columns {
			l = append(l, &leaf{cell: [2]int{x, y}, x: x, y: y})
		}
	}
	return l
}

func (l lying) most(of func(x *leaf) int) int {
	n := small
	for _, x := range l {
		n = max(n, of(x))
	}
	return n
}

// laid turns leaves about the line between two columns (or, with round, two rows), to the top.
func (l lying) laid(edge int, isLaid func(x *leaf) bool, isRow bool) {
	top := l.most(func(x *leaf) int { return x.z })
	for _, x := range l {
		if !isLaid(x) {
			continue
		}
		x.z = 2*top + 1 - x.z
		x.over = !x.over
		if isRow {
			x.round = !x.round
			x.y = 2*edge - 1 - x.y
		} else {
			x.x = 2*edge - 1 - x.x
		}
	}
}

func (l lying) fold(f api.ImposeFold) {
	columns := 1 + l.most(func(x *leaf) int { return x.x })
	rows := 1 + l.most(func(x *leaf) int { return x.y })
	switch f.Kind {
	case api.FoldLeft:
		edge := columns - f.Count
		l.laid(edge, func(x *leaf) bool { return x.x >= edge }, false)
	case api.FoldRight:
		l.laid(f.Count, func(x *leaf) bool { return x.x < f.Count }, false)
		for _, x := range l {
			x.x -= f.Count
		}
	case api.FoldUp:
		edge := rows - f.Count
		l.laid(edge, func(x *leaf) bool { return x.y >= edge }, true)
	case api.FoldDown:
		l.laid(f.Count, func(x *leaf) bool { return x.y < f.Count }, true)
		for _, x := range l {
			x.y -= f.Count
		}
	case api.FoldOver:
		for _, x := range l {
			x.x, x.z, x.over = columns-1-x.x, -x.z, !x.over
		}
	case api.FoldRound:
		for _, x := range l {
			x.x, x.y, x.round = columns-1-x.x, rows-1-x.y, !x.round
		}
	}
}

// pileOf is the pile of right folds, by the definition.
func pileOf(columns, rows int, folds []api.ImposeFold) []api.ImposeLeaf {
	l := flat(columns, rows)
	for _, f := range folds {
		l.fold(f)
	}
	slices.SortFunc(l, func(a, b *leaf) int { return cmp.Compare(b.z, a.z) })
	number := map[bool]int{true: 1}
	var pile []api.ImposeLeaf
	for _, x := range l {
		pile = append(pile, api.ImposeLeaf{Column: x.cell[0], Row: x.cell[1], Over: number[x.over], Round: number[x.round]})
	}
	return pile
}

// readingOf is what a scheme reads by right folds, by the definition.
func readingOf(s api.ImposeScheme, folds []api.ImposeFold) []api.ImposePage {
	var pages []api.ImposePage
	for _, leaf := range pileOf(s.Columns, s.Rows, folds) {
		cell := s.Cells[leaf.Row*s.Columns+leaf.Column]
		two := pagesOf(cell.Front, cell.FrontTurn, cell.Back, cell.BackTurn)
		if leaf.Over == 1 {
			slices.Reverse(two)
		}
		for _, page := range two {
			isUpright := page.Turn == 0 && leaf.Round == 0 || page.Turn == 1 && leaf.Round == 1
			page.Turn = 1
			if isUpright {
				page.Turn = 0
			}
			pages = append(pages, page)
		}
	}
	return pages
}

// inOrder is the pages 1, 2, 3 and so on of so many cells, all upright.
func inOrder(cells int) []api.ImposePage {
	var pages []api.ImposePage
	for i := range 2 * cells {
		pages = append(pages, api.ImposePage{Page: i + 1})
	}
	return pages
}

// foldings calls a function with all right folds of a sheet that lay columns and rows over, those that
// begin alike one behind the other, in their order.
func foldings(columns, rows int, do func(l []api.ImposeFold)) {
	var more func(columns, rows int, l []api.ImposeFold)
	more = func(columns, rows int, l []api.ImposeFold) {
		if columns == 1 && rows == 1 {
			do(l)
			return
		}
		for kind := api.FoldLeft; kind <= api.FoldDown; kind++ {
			for count := 1; count <= 8; count++ {
				f := append(slices.Clone(l), api.ImposeFold{Kind: kind, Count: count})
				if kind <= api.FoldRight && 2*count <= columns {
					more(columns-count, rows, f)
				}
				if kind > api.FoldRight && 2*count <= rows {
					more(columns, rows-count, f)
				}
			}
		}
	}
	more(columns, rows, nil)
}

// maker makes sheets, folds and schemes, the same ones in every run.
type maker struct{ *rand.Rand }

func newMaker(seed int64) maker {
	return maker{rand.New(rand.NewSource(seed))}
}

// sheet makes the sides of a sheet with at most so many cells.
func (m maker) sheet(most int) [2]int {
	for {
		if s := [2]int{1 + m.Intn(8), 1 + m.Intn(8)}; s[0]*s[1] <= most {
			return s
		}
	}
}

// folds makes right folds of a sheet, at most 12 of them.
func (m maker) folds(sheet [2]int) []api.ImposeFold {
	for {
		if l := m.anyFolds(sheet); len(l) <= 12 {
			return l
		}
	}
}

func (m maker) anyFolds(sheet [2]int) []api.ImposeFold {
	var l []api.ImposeFold
	columns, rows := sheet[0], sheet[1]
	for columns*rows > 1 || m.Intn(3) == 0 {
		switch kind := 1 + m.Intn(6); {
		case kind <= api.FoldRight && columns > 1:
			l = append(l, api.ImposeFold{Kind: kind, Count: 1 + m.Intn(columns/2)})
			columns -= l[len(l)-1].Count
		case (kind == api.FoldUp || kind == api.FoldDown) && rows > 1:
			l = append(l, api.ImposeFold{Kind: kind, Count: 1 + m.Intn(rows/2)})
			rows -= l[len(l)-1].Count
		case kind >= api.FoldOver:
			l = append(l, api.ImposeFold{Kind: kind})
		}
	}
	return l
}

// scheme makes a scheme with its pages anyhow.
func (m maker) scheme(sheet [2]int) api.ImposeScheme {
	s := api.ImposeScheme{Columns: sheet[0], Rows: sheet[1]}
	pages := m.Perm(2 * sheet[0] * sheet[1])
	for ; len(pages) > 0; pages = pages[2:] {
		s.Cells = append(s.Cells, api.ImposeCell{Front: 1 + pages[0], FrontTurn: m.Intn(2), Back: 1 + pages[1], BackTurn: m.Intn(2)})
	}
	return s
}

// cells makes a sheet with any pages of a book.
func (m maker) cells(sheet [2]int) api.ImposeScheme {
	s := m.scheme(sheet)
	for i := range s.Cells {
		s.Cells[i].Front, s.Cells[i].Back = 1+m.Intn(4000), 1+m.Intn(4000)
	}
	return s
}

// view makes a view with any pages of a book.
func (m maker) view(sheet [2]int) api.ImposeView {
	v := api.ImposeView{Columns: sheet[0], Rows: sheet[1]}
	for range sheet[0] * sheet[1] {
		v.Pages = append(v.Pages, api.ImposePage{Page: 1 + m.Intn(4000), Turn: m.Intn(2)})
	}
	return v
}

// alike tells whether two values are equal, if a nil slice and an empty one are the same.
func alike(a, b any) bool {
	return alikeValues(reflect.ValueOf(a), reflect.ValueOf(b))
}

func alikeValues(a, b reflect.Value) bool {
	switch a.Kind() {
	case reflect.Slice, reflect.Array:
		if a.Len() != b.Len() {
			return false
		}
		for i := range a.Len() {
			if !alikeValues(a.Index(i), b.Index(i)) {
				return false
			}
		}
		return true
	case reflect.Struct:
		for i := range a.NumField() {
			if !alikeValues(a.Field(i), b.Field(i)) {
				return false
			}
		}
		return true
	}
	return a.Interface() == b.Interface()
}

// isZero tells whether all results are zero values; an empty slice is one, in a scheme or a view also.
func isZero(results []any) bool {
	for _, r := range results {
		if !alike(r, reflect.Zero(reflect.TypeOf(r)).Interface()) {
			return false
		}
	}
	return true
}

func results(e api.Errno, r ...any) ([]any, api.Errno) {
	return r, e
}

// want fails the test if a result with an error is not the one that is wanted.
func want[T any](t *testing.T, what string, got T, e api.Errno, wanted T, wantError api.Errno) {
	t.Helper()
	if e != wantError || !alike(got, wanted) {
		t.Errorf("%s: %v, error %d, want %v, error %d", what, got, e, wanted, wantError)
	}
}

// opened is the pile of a sheet as its scheme reads; it fails the test if there is an error.
func opened(t *testing.T, s api.ImposeScheme, folds []api.ImposeFold) []api.ImposePage {
	t.Helper()
	pages, e := impose.Reads(s, folds)
	if e != api.OK {
		t.Fatalf("Reads of %v, %v: error %d", s, folds, e)
	}
	return pages
}
