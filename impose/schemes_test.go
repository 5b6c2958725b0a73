package impose_test

import (
	"slices"
	"testing"

	"tympan/api"
	"tympan/impose"
)

// P6.2: schemes without errors, with pages in any order and turned anyhow.
func TestRightSchemes(t *testing.T) {
	m := newMaker(3)
	for _, s := range []api.ImposeScheme{pair(), quarto(), strip(1, 1), strip(8, 4), strip(4, 8), m.scheme([2]int{8, 4}), m.scheme([2]int{5, 6})} {
		n, e := impose.CheckScheme(s)
		want(t, "CheckScheme", n, e, 0, api.OK)
	}
}

// P6.2: what is wrong with a scheme, ahead of the error of folds.
func TestWrongSchemes(t *testing.T) {
	for _, c := range wrongSchemes() {
		n, e := impose.CheckScheme(c.s)
		want(t, "CheckScheme, "+c.what, n, e, c.cell, c.e)
		pages, e := impose.Reads(c.s, folds(api.ImposeFold{}))
		want(t, "Reads, "+c.what, pages, e, nil, c.e)
		l, e := impose.FoldsFor(c.s)
		want(t, "FoldsFor, "+c.what, l, e, nil, c.e)
	}
	for _, c := range wrongFolds() {
		pages, e := impose.Reads(strip(3, 2), c.folds)
		want(t, "Reads, "+c.what, pages, e, nil, c.e)
	}
}

// P6.2, P6.7: a scheme read by its folds, and by others.
func TestReads(t *testing.T) {
	for _, c := range []struct {
		what  string
		s     api.ImposeScheme
		folds []api.ImposeFold
		pages []api.ImposePage
	}{
		{"example 1", pair(), folds(left(1)), pagesOf(1, 0, 2, 0, 3, 0, 4, 0)},
		{"example 1, to the other side", pair(), folds(right(1)), pagesOf(4, 0, 3, 0, 2, 0, 1, 0)},
		{"example 1, turned over", pair(), folds(left(1), over()), pagesOf(4, 0, 3, 0, 2, 0, 1, 0)},
		{"example 1, turned round", pair(), folds(left(1), round()), pagesOf(1, 1, 2, 1, 3, 1, 4, 1)},
		{"example 2", quarto(), folds(left(1), up(1)), inOrder(4)},
		{"example 2, first upwards", quarto(), folds(up(1), left(1)), pagesOf(5, 0, 6, 0, 3, 0, 4, 0, 1, 0, 2, 0, 7, 0, 8, 0)},
		{"example 2, downwards", quarto(), folds(left(1), down(1)), pagesOf(8, 1, 7, 1, 6, 1, 5, 1, 4, 1, 3, 1, 2, 1, 1, 1)},
		{"turns as they are", schemeOf(1, 1, [4]int{2, 1, 1, 0}), nil, pagesOf(2, 1, 1, 0)},
		{"turns of a leaf that is round", schemeOf(1, 1, [4]int{2, 1, 1, 0}), folds(round()), pagesOf(2, 0, 1, 1)},
	} {
		pages, e := impose.Reads(c.s, c.folds)
		want(t, "Reads, "+c.what, pages, e, c.pages, api.OK)
	}
}

// P6.2, P6.7: made schemes by made folds, against the definition; each page is read once.
func TestMadeReads(t *testing.T) {
	m := newMaker(4)
	for range 2000 {
		sheet := m.sheet(32)
		s, l := m.scheme(sheet), m.folds(sheet)
		pages, e := impose.Reads(s, l)
		want(t, "Reads", pages, e, readingOf(s, l), api.OK)
		slices.SortFunc(pages, func(a, b api.ImposePage) int { return a.Page - b.Page })
		for i, page := range pages {
			if page.Page != i+1 {
				t.Fatalf("Reads of %v, %v: page %d of %v", s, l, i+1, pages)
			}
		}
	}
}

// P6.2: folds for schemes.
func TestFoldsFor(t *testing.T) {
	upsideDown := changed(pair(), func(s *api.ImposeScheme) { s.Cells[0].BackTurn = 1 })
	fourTwice, _ := impose.SchemeOf([2]int{4, 1}, folds(right(2), left(1)))
	fromBoth, _ := impose.SchemeOf([2]int{4, 4}, folds(down(1), right(1), down(1), right(1), left(1), up(1)))
	overFirst, _ := impose.SchemeOf([2]int{2, 1}, folds(over(), left(1)))
	roundFirst, _ := impose.SchemeOf([2]int{2, 1}, folds(round(), left(1)))
	for _, c := range []struct {
		what string
		s    api.ImposeScheme
		l    []api.ImposeFold
		e    api.Errno
	}{
		{"one cell", strip(1, 1), nil, api.OK},
		{"one cell from behind", schemeOf(1, 1, [4]int{2, 0, 1, 0}), nil, api.ErrNone},
		{"one cell upside down", schemeOf(1, 1, [4]int{1, 1, 2, 1}), nil, api.ErrNone},
		{"example 1", pair(), folds(left(1)), api.OK},
		{"example 2", quarto(), folds(left(1), up(1)), api.OK},
		{"a page upside down", upsideDown, nil, api.ErrNone},
		{"pages as they come", strip(2, 1), nil, api.ErrNone},
		{"to the right, then to the left", fourTwice, folds(right(2), left(1)), api.OK},
		{"from both sides", fromBoth, folds(down(1), right(1), down(1), right(1), left(1), up(1)), api.OK},
		{"turned over first", overFirst, nil, api.ErrNone},
		{"turned round first", roundFirst, nil, api.ErrNone},
		{"16 cells as they come", strip(4, 4), nil, api.ErrNone},
		{"16 cells in a row of 8", strip(8, 2), nil, api.ErrNone},
		{"18 cells", strip(6, 3), nil, api.ErrLarge},
		{"20 cells", strip(4, 5), nil, api.ErrLarge},
		{"32 cells", strip(8, 4), nil, api.ErrLarge},
	} {
		l, e := impose.FoldsFor(c.s)
		want(t, "FoldsFor, "+c.what, l, e, c.l, c.e)
	}
	// A scheme of more than 16 cells has none, though there are folds for it.
	s, _ := impose.SchemeOf([2]int{3, 6}, folds(left(1), left(1), up(3), up(1), up(1)))
	l, e := impose.FoldsFor(s)
	want(t, "FoldsFor 18 cells that are folded", l, e, nil, api.ErrLarge)
}

// P6.2: of all right folds of small sheets the best ones for their scheme, by the definition; other
// lists of folds for the same scheme are not found.
func TestAllFoldings(t *testing.T) {
	several := 0
	for _, sheet := range [][2]int{{1, 1}, {2, 1}, {5, 1}, {8, 1}, {1, 2}, {1, 8}, {2, 2}, {3, 2}, {2, 3}, {4, 2}, {2, 4}, {3, 3}, {4, 3}, {3, 4}, {4, 4}} {
		best := map[string][]api.ImposeFold{}
		foldings(sheet[0], sheet[1], func(l []api.ImposeFold) {
			s, _ := impose.SchemeOf(sheet, l)
			text, _ := impose.Print(s)
			// The folds come in their order, so that of several lists with as many folds the first one stays.
			if before, isThere := best[text]; !isThere || len(l) < len(before) {
				best[text] = l
			}
			if !alike(best[text], l) {
				several++
			}
		})
		for text, l := range best {
			s, _, _ := impose.Parse(text)
			got, e := impose.FoldsFor(s)
			want(t, "FoldsFor "+text, got, e, l, api.OK)
		}
	}
	if several < 100 {
		t.Errorf("only %d lists that are not the best ones", several)
	}
}

// P6.2: made schemes that nearly can be folded, against all right folds of their sheets.
func TestNearlyFolded(t *testing.T) {
	m := newMaker(5)
	found, none := 0, 0
	for range 400 {
		sheet := [][2]int{{2, 2}, {3, 2}, {4, 1}, {1, 5}, {2, 4}}[m.Intn(5)]
		s, _ := impose.SchemeOf(sheet, m.folds(sheet))
		if i, j := m.Intn(len(s.Cells)), m.Intn(len(s.Cells)); m.Intn(2) == 0 {
			s.Cells[i], s.Cells[j] = s.Cells[j], s.Cells[i]
		}
		if m.Intn(4) == 0 {
			s.Cells[0].FrontTurn ^= 1
		}
		var best []api.ImposeFold
		isFound := false
		foldings(sheet[0], sheet[1], func(l []api.ImposeFold) {
			if alike(readingOf(s, l), inOrder(len(s.Cells))) && (!isFound || len(l) < len(best)) {
				best, isFound = l, true
			}
		})
		l, e := impose.FoldsFor(s)
		if isFound {
			found++
			want(t, "FoldsFor", l, e, best, api.OK)
		} else {
			none++
			want(t, "FoldsFor", l, e, nil, api.ErrNone)
		}
	}
	if found < 50 || none < 50 {
		t.Errorf("%d schemes with folds, %d without", found, none)
	}
}

// P6.2: folds of large sheets are found without delay.
func TestLargeFoldsFor(t *testing.T) {
	m := newMaker(6)
	for range 300 {
		sheet := [][2]int{{8, 2}, {2, 8}, {4, 4}, {5, 3}, {3, 5}, {7, 2}}[m.Intn(6)]
		var l []api.ImposeFold
		for _, f := range m.folds(sheet) {
			if f.Kind <= api.FoldDown {
				l = append(l, f)
			}
		}
		s, e := impose.SchemeOf(sheet, l)
		if e != api.OK {
			t.Fatalf("SchemeOf %v, %v: error %d", sheet, l, e)
		}
		got, e := impose.FoldsFor(s)
		if e != api.OK || len(got) > len(l) || slices.ContainsFunc(got, func(f api.ImposeFold) bool { return f.Kind > api.FoldDown }) {
			t.Errorf("FoldsFor the scheme of %v, %v: %v, error %d", sheet, l, got, e)
		}
		want(t, "Reads of the folds", opened(t, s, got), api.OK, inOrder(len(s.Cells)), api.OK)
	}
}
