package forme_test

import (
	"strconv"
	"strings"
	"testing"

	"tympan/api"
	"tympan/forme"
)

// wrongForme is a forme with its error, and the piece that has it.
type wrongForme struct {
	what   string
	f      api.Forme
	number int
	e      api.Errno
}

// strips is a forme of so many columns of a point each.
func strips(columns int) api.Forme {
	f := formeOf(columns, 1)
	for x := range columns {
		f.Pieces = append(f.Pieces, page("s"+strconv.Itoa(x), x, 0, 1, 1))
	}
	return f
}

// wrongChases is formes with the errors of a chase, or too many pieces, mostly with a later one, too.
func wrongChases() []wrongForme {
	sized := func(width, height int) api.Forme {
		return changed(locked(), func(f *api.Forme) { f.Width, f.Height = width, height })
	}
	many := strips(61)
	many.Pieces[0].Name = ""
	wide := strips(61)
	wide.Width = 4001
	return []wrongForme{
		{"nothing", api.Forme{}, 0, api.ErrRange},
		{"no width", sized(0, 6), 0, api.ErrRange},
		{"no height", sized(10, 0), 0, api.ErrRange},
		{"-1 wide", sized(-1, 6), 0, api.ErrRange},
		{"-1 high", sized(10, -1), 0, api.ErrRange},
		{"4001 wide", sized(4001, 6), 0, api.ErrRange},
		{"4001 high", sized(10, 4001), 0, api.ErrRange},
		{"great sides", sized(great, great), 0, api.ErrRange},
		{"small sides", sized(small, small), 0, api.ErrRange},
		{"wide with 61 pieces", wide, 0, api.ErrRange},
		{"61 pieces", strips(61), 0, api.ErrLarge},
		{"61 pieces with a wrong one", many, 0, api.ErrLarge},
		{"a narrower chase", sized(9, 6), 3, api.ErrBreak},
		{"a lower chase", sized(10, 5), 4, api.ErrBreak},
	}
}

// wrongPieces is formes with each error of a piece, mostly with a later one, too.
func wrongPieces() []wrongForme {
	var wrong []wrongForme
	add := func(what string, number int, p api.FormePiece, e api.Errno) {
		wrong = append(wrong, wrongForme{what, withPiece(number, p), number, e})
	}
	for _, name := range []string{"", "1p", "-p", "p_", "p.", "p p", "p\n", "pä", "\x00", "abcdefghijklm", "p@", "p[", "p`", "p{", "p/", "p:", "é", strings.Repeat("n", 100000)} {
		add("the name "+strconv.Quote(name[:min(20, len(name))]), 1, pieceOf(name, 9, 20, 0, 0, 4), api.ErrName)
	}
	add("the name of an earlier one", 2, pieceOf("p", 9, -1, 4, 8, 1), api.ErrExists)
	add("the name of the one before", 4, quoinDown("qa", 0, 5, 10, 1), api.ErrExists)
	for _, kind := range []int{0, -1, 5, great, small} {
		add("the kind "+strconv.Itoa(kind), 1, pieceOf("f", kind, 6, 0, 0, 4), api.ErrKind)
	}
	for _, at := range [][4]int{
		{6, 0, 0, 4}, {6, 0, 2, 0}, {6, 0, -1, 4}, {6, 0, 2, -1}, {6, 0, small, 4}, {6, 0, 2, small}, {-1, 0, 2, 4}, {6, -1, 2, 4}, {9, 0, 2, 4}, {6, 3, 2, 4},
		{10, 0, 1, 4}, {6, 6, 2, 1}, {0, 0, 11, 4}, {0, 0, 1, 7}, {great, 0, 2, 4}, {6, great, 2, 4}, {6, 0, great, 4}, {6, 0, 2, great}, {great, great, great, great},
		{small, 0, 2, 4}, {6, small, 2, 4}, {small, small, great, great}, {1, 1, great, great}, {great, 0, small, 4}, {-2, 0, 3, 1}, {0, -2, 1, 3},
	} {
		add("a piece outside", 1, furniture("f", at[0], at[1], at[2], at[3]), api.ErrBreak)
	}
	for _, c := range []struct {
		at     [4]int
		number int
	}{
		{[4]int{5, 0, 2, 4}, 1}, {[4]int{0, 0, 10, 6}, 1}, {[4]int{1, 1, 1, 1}, 1}, {[4]int{5, 3, 1, 1}, 1}, {[4]int{0, 3, 1, 3}, 1}, {[4]int{5, 0, 1, 1}, 1},
		{[4]int{3, 3, 7, 3}, 1}, {[4]int{6, 0, 4, 6}, 2}, {[4]int{7, 4, 1, 1}, 2}, {[4]int{6, 0, 3, 4}, 3}, {[4]int{9, 5, 1, 1}, 4},
	} {
		p := furniture("f", c.at[0], c.at[1], c.at[2], c.at[3])
		wrong = append(wrong, wrongForme{"pieces that overlap", withPiece(1, p), c.number, api.ErrDouble})
	}
	return wrong
}

func wrongFormes() []wrongForme {
	both := withPiece(1, furniture("f", 5, 0, 3, 4))
	both.Pieces[3].Name = ""
	return append(append(wrongChases(), wrongPieces()...),
		wrongForme{"an earlier overlap ahead of a later name", both, 1, api.ErrDouble},
		wrongForme{"the same place twice", formeOf(2, 1, page("a", 0, 0, 1, 1), page("b", 0, 0, 1, 1)), 1, api.ErrDouble},
		wrongForme{"a cross", formeOf(3, 3, page("a", 0, 1, 3, 1), page("b", 1, 0, 1, 3)), 1, api.ErrDouble},
	)
}

// P7.1: what is wrong with a forme.
func TestWrongFormes(t *testing.T) {
	for _, c := range wrongFormes() {
		n, e := forme.CheckForme(c.f)
		want(t, "CheckForme, "+c.what, n, e, c.number, c.e)
	}
}

// P7.1: formes without errors, at their limits, and pieces that touch.
func TestRightFormes(t *testing.T) {
	for _, f := range []api.Forme{
		locked(), wheel(), strips(60), formeOf(1, 1), formeOf(4000, 4000), formeOf(4000, 1), formeOf(1, 4000),
		formeOf(4000, 4000, page("abcdefghij-9", 0, 0, 4000, 4000)), formeOf(2, 2, page("A", 0, 0, 1, 1), page("Z9--", 1, 1, 1, 1)),
		formeOf(2, 2, page("a", 1, 1, 1, 1), page("b", 0, 0, 1, 1), page("c", 0, 1, 1, 1), page("d", 1, 0, 1, 1)),
		formeOf(3, 3, page("p", 0, 0, 1, 1), page("P", 2, 2, 1, 1), page("z", 0, 2, 1, 1), page("a0", 2, 0, 1, 1)),
	} {
		n, e := forme.CheckForme(f)
		want(t, "CheckForme", n, e, 0, api.OK)
	}
}

// P7.1: formes are right just if no point is covered twice.
func TestOverlaps(t *testing.T) {
	m := newMaker(1)
	for range 3000 {
		f := formeOf(5, 5)
		counts := map[[2]int]int{}
		wantNumber, wantError := 0, api.OK
		for i := range 3 {
			p := page("p"+strconv.Itoa(i), m.Intn(5), m.Intn(5), 0, 0)
			p.Width, p.Height = 1+m.Intn(5-p.X), 1+m.Intn(5-p.Y)
			f.Pieces = append(f.Pieces, p)
			for x := p.X; x < p.X+p.Width; x++ {
				for y := p.Y; y < p.Y+p.Height; y++ {
					counts[[2]int{x, y}]++
					if counts[[2]int{x, y}] > 1 && wantError == api.OK {
						wantNumber, wantError = i, api.ErrDouble
					}
				}
			}
		}
		n, e := forme.CheckForme(f)
		want(t, "CheckForme", n, e, wantNumber, wantError)
	}
}

// P7.1, P7.2: gaps of example 1, and of formes that are hardly covered.
func TestGaps(t *testing.T) {
	without := func(number int) api.Forme {
		f := locked()
		f.Pieces = append(f.Pieces[:number], f.Pieces[number+1:]...)
		return f
	}
	for _, c := range []struct {
		f     api.Forme
		gap   [2]int
		count int
		e     api.Errno
	}{
		{locked(), [2]int{}, 0, api.ErrNone},
		{wheel(), [2]int{}, 0, api.ErrNone},
		{without(2), [2]int{0, 4}, 8, api.OK},
		{without(0), [2]int{0, 0}, 24, api.OK},
		{without(1), [2]int{6, 0}, 8, api.OK},
		{without(3), [2]int{8, 0}, 10, api.OK},
		{without(4), [2]int{0, 5}, 10, api.OK},
		{formeOf(1, 1), [2]int{0, 0}, 1, api.OK},
		{formeOf(4000, 4000), [2]int{0, 0}, 16000000, api.OK},
		{formeOf(4000, 4000, page("p", 0, 0, 4000, 4000)), [2]int{}, 0, api.ErrNone},
		{formeOf(4000, 4000, page("a", 0, 0, 4000, 3999), page("b", 0, 3999, 3999, 1)), [2]int{3999, 3999}, 1, api.OK},
		{formeOf(3, 3, page("b", 0, 1, 1, 2), page("a", 0, 0, 3, 1), page("c", 2, 1, 1, 2)), [2]int{1, 1}, 2, api.OK},
		// the row comes first, not the column
		{formeOf(3, 3, page("a", 0, 0, 2, 2)), [2]int{2, 0}, 5, api.OK},
		{formeOf(2, 3, page("a", 1, 0, 1, 3), page("b", 0, 0, 1, 1)), [2]int{0, 1}, 2, api.OK},
	} {
		gap, e := forme.FirstGap(c.f)
		want(t, "FirstGap", gap, e, c.gap, c.e)
		count, e := forme.Uncovered(c.f)
		want(t, "Uncovered", count, e, c.count, api.OK)
	}
}

// P7.1, P7.2, P7.8: gaps, points, rows and columns of made formes are those of the definition.
func TestPoints(t *testing.T) {
	m := newMaker(2)
	for range 1500 {
		f := m.gapped(10)
		checkPoints(t, f)
		checkLines(t, f)
	}
}

// checkPoints compares gaps and points with the definition.
func checkPoints(t *testing.T, f api.Forme) {
	t.Helper()
	count, gap := 0, [2]int{}
	for y, row := range points(f) {
		for x, number := range row {
			if number >= 0 {
				n, e := forme.PieceAt(f, x, y)
				want(t, "PieceAt", n, e, number, api.OK)
				continue
			}
			n, e := forme.PieceAt(f, x, y)
			want(t, "PieceAt of a gap", n, e, 0, api.ErrNone)
			if count == 0 {
				gap = [2]int{x, y}
			}
			count++
		}
	}
	n, e := forme.Uncovered(f)
	want(t, "Uncovered", n, e, count, api.OK)
	wantError := api.OK
	if count == 0 {
		wantError = api.ErrNone
	}
	first, e := forme.FirstGap(f)
	want(t, "FirstGap", first, e, gap, wantError)
}

// checkLines compares rows and columns with the definition, and asks whether all of them being full is
// the same as the forme being full.
func checkLines(t *testing.T, f api.Forme) {
	t.Helper()
	rows := points(f)
	isFullAcross, isFullDown := true, true
	for y, row := range rows {
		numbers, e := forme.RowAt(f, y)
		want(t, "RowAt", numbers, e, distinct(row), api.OK)
		sum := 0
		for _, i := range numbers {
			sum += f.Pieces[i].Width
		}
		isFullAcross = isFullAcross && sum == f.Width
	}
	for x := range f.Width {
		var column []int
		for _, row := range rows {
			column = append(column, row[x])
		}
		numbers, e := forme.ColumnAt(f, x)
		want(t, "ColumnAt", numbers, e, distinct(column), api.OK)
		sum := 0
		for _, i := range numbers {
			sum += f.Pieces[i].Height
		}
		isFullDown = isFullDown && sum == f.Height
	}
	if is := isFull(t, f); is != isFullAcross || is != isFullDown {
		t.Errorf("%v: full %t, all rows %t, all columns %t", f, is, isFullAcross, isFullDown)
	}
}

// distinct is the pieces of a row of points, each one once.
func distinct(row []int) []int {
	var numbers []int
	for _, n := range row {
		if n >= 0 && (len(numbers) == 0 || numbers[len(numbers)-1] != n) {
			numbers = append(numbers, n)
		}
	}
	return numbers
}

// P7.2: the rows and columns of example 1, and what is none.
func TestRowsAndColumns(t *testing.T) {
	for y, wanted := range [][]int{{0, 1, 3}, {0, 1, 3}, {0, 1, 3}, {0, 1, 3}, {2, 3}, {4}} {
		row, e := forme.RowAt(locked(), y)
		want(t, "RowAt", row, e, wanted, api.OK)
	}
	for x, wanted := range [][]int{0: {0, 2, 4}, 5: {0, 2, 4}, 6: {1, 2, 4}, 7: {1, 2, 4}, 8: {3, 4}, 9: {3, 4}} {
		if wanted != nil {
			column, e := forme.ColumnAt(locked(), x)
			want(t, "ColumnAt", column, e, wanted, api.OK)
		}
	}
	row, e := forme.RowAt(wheel(), 0)
	want(t, "RowAt of pieces in no order", row, e, []int{2, 3}, api.OK)
	row, e = forme.RowAt(wheel(), 1)
	want(t, "RowAt of pieces in no order", row, e, []int{4, 0, 3}, api.OK)
	column, e := forme.ColumnAt(wheel(), 1)
	want(t, "ColumnAt of pieces in no order", column, e, []int{2, 0, 1}, api.OK)
	row, e = forme.RowAt(formeOf(4, 3), 2)
	want(t, "RowAt without pieces", row, e, nil, api.OK)
	for _, n := range []int{-1, 6, great, small} {
		row, e := forme.RowAt(locked(), n)
		want(t, "RowAt of none", row, e, nil, api.ErrRange)
		number, e := forme.PieceAt(locked(), 0, n)
		want(t, "PieceAt outside", number, e, 0, api.ErrRange)
	}
	for _, n := range []int{-1, 10, great, small} {
		column, e := forme.ColumnAt(locked(), n)
		want(t, "ColumnAt of none", column, e, nil, api.ErrRange)
		number, e := forme.PieceAt(locked(), n, 0)
		want(t, "PieceAt outside", number, e, 0, api.ErrRange)
	}
	number, e := forme.PieceAt(formeOf(1, 1), 1, 0)
	want(t, "PieceAt outside of an empty forme", number, e, 0, api.ErrRange)
	number, e = forme.PieceAt(locked(), 9, 5)
	want(t, "PieceAt of the last point", number, e, 4, api.OK)
	number, e = forme.PieceAt(locked(), 0, 0)
	want(t, "PieceAt of the first point", number, e, 0, api.OK)
}
