package impose_test

import (
	"slices"
	"testing"

	"tympan/api"
	"tympan/impose"
)

// P6.1: the folds of the chapter, with their piles and schemes.
func TestExamplesOfFolds(t *testing.T) {
	n, e := impose.CheckFolds([2]int{2, 1}, folds(left(1)))
	want(t, "CheckFolds of example 1", n, e, 0, api.OK)
	pile, e := impose.Pile([2]int{2, 1}, folds(left(1)))
	want(t, "Pile of example 1", pile, e, []api.ImposeLeaf{{Column: 1, Over: 1}, {}}, api.OK)
	s, e := impose.SchemeOf([2]int{2, 1}, folds(left(1)))
	want(t, "SchemeOf example 1", s, e, pair(), api.OK)

	pile, e = impose.Pile([2]int{2, 2}, folds(left(1), up(1)))
	want(t, "Pile of example 2", pile, e, []api.ImposeLeaf{{Row: 1, Over: 1, Round: 1}, {Column: 1, Row: 1, Round: 1}, {Column: 1, Over: 1}, {}}, api.OK)
	s, e = impose.SchemeOf([2]int{2, 2}, folds(left(1), up(1)))
	want(t, "SchemeOf example 2", s, e, quarto(), api.OK)
}

// P6.1: a sheet of one cell is right without folds, and with turns.
func TestOneCell(t *testing.T) {
	for _, c := range []struct {
		l    []api.ImposeFold
		leaf api.ImposeLeaf
		cell [4]int
	}{
		{nil, api.ImposeLeaf{}, [4]int{1, 0, 2, 0}},
		{folds(over()), api.ImposeLeaf{Over: 1}, [4]int{2, 0, 1, 0}},
		{folds(round()), api.ImposeLeaf{Round: 1}, [4]int{1, 1, 2, 1}},
		{folds(round(), over()), api.ImposeLeaf{Over: 1, Round: 1}, [4]int{2, 1, 1, 1}},
		{slices.Repeat(folds(over()), 12), api.ImposeLeaf{}, [4]int{1, 0, 2, 0}},
	} {
		n, e := impose.CheckFolds([2]int{1, 1}, c.l)
		want(t, "CheckFolds of one cell", n, e, 0, api.OK)
		pile, e := impose.Pile([2]int{1, 1}, c.l)
		want(t, "Pile of one cell", pile, e, []api.ImposeLeaf{c.leaf}, api.OK)
		s, e := impose.SchemeOf([2]int{1, 1}, c.l)
		want(t, "SchemeOf one cell", s, e, schemeOf(1, 1, c.cell), api.OK)
	}
}

// P6.1: each kind of folds alone, the leaves of each place in the opposite order where they are laid
// over, and the columns (rows) that are left numbered anew.
func TestKindsOfFolds(t *testing.T) {
	type l = []api.ImposeLeaf
	for _, c := range []struct {
		what  string
		sheet [2]int
		folds []api.ImposeFold
		pile  l
	}{
		{"to the right", [2]int{2, 1}, folds(right(1)), l{{Over: 1}, {Column: 1}}},
		{"upwards", [2]int{1, 2}, folds(up(1)), l{{Row: 1, Over: 1, Round: 1}, {}}},
		{"downwards", [2]int{1, 2}, folds(down(1)), l{{Over: 1, Round: 1}, {Row: 1}}},
		{"over", [2]int{2, 1}, folds(over(), left(1)), l{{Column: 0}, {Column: 1, Over: 1}}},
		{"round", [2]int{2, 1}, folds(round(), left(1)), l{{Over: 1, Round: 1}, {Column: 1, Round: 1}}},
		{"round with rows", [2]int{1, 2}, folds(round(), up(1)), l{{Over: 1}, {Row: 1, Round: 1}}},
		{"over with rows", [2]int{1, 2}, folds(over(), up(1)), l{{Row: 1, Round: 1}, {Over: 1}}},
		{"over behind", [2]int{2, 1}, folds(left(1), over()), l{{Over: 1}, {Column: 1}}},
		{"round behind", [2]int{2, 1}, folds(left(1), round()), l{{Column: 1, Over: 1, Round: 1}, {Round: 1}}},
		{"two at once", [2]int{4, 1}, folds(left(2), left(1)), l{{Column: 1, Over: 1}, {Column: 2}, {Column: 3, Over: 1}, {}}},
		{"two at once to the right", [2]int{4, 1}, folds(right(2), right(1)), l{{Column: 2, Over: 1}, {Column: 1}, {Over: 1}, {Column: 3}}},
		{"one of three to the right, then all", [2]int{3, 1}, folds(right(1), right(1)), l{{Column: 1, Over: 1}, {}, {Column: 2}}},
		{"one of three from both sides", [2]int{3, 1}, folds(right(1), left(1)), l{{Column: 2, Over: 1}, {Over: 1}, {Column: 1}}},
		{"one of three downwards, then upwards", [2]int{1, 3}, folds(down(1), up(1)), l{{Row: 2, Over: 1, Round: 1}, {Over: 1, Round: 1}, {Row: 1}}},
	} {
		n, e := impose.CheckFolds(c.sheet, c.folds)
		want(t, "CheckFolds "+c.what, n, e, 0, api.OK)
		pile, e := impose.Pile(c.sheet, c.folds)
		want(t, "Pile folded "+c.what, pile, e, c.pile, api.OK)
	}
}

// P6.1: what is wrong with a sheet.
func TestWrongSheets(t *testing.T) {
	wrong := append(slices.Repeat(folds(left(-1)), 12), folds(api.ImposeFold{})...)
	for _, c := range []struct {
		sheet [2]int
		e     api.Errno
	}{
		{[2]int{0, 1}, api.ErrRange},
		{[2]int{1, 0}, api.ErrRange},
		{[2]int{-1, -1}, api.ErrRange},
		{[2]int{9, 1}, api.ErrRange},
		{[2]int{1, 9}, api.ErrRange},
		{[2]int{9, 9}, api.ErrRange},
		{[2]int{great, great}, api.ErrRange},
		{[2]int{small, small}, api.ErrRange},
		{[2]int{great, 2}, api.ErrRange},
		{[2]int{8, 5}, api.ErrLarge},
		{[2]int{5, 7}, api.ErrLarge},
		{[2]int{8, 8}, api.ErrLarge},
		{[2]int{3, 8}, api.ErrLarge}, // its folds are too many
		{[2]int{8, 4}, api.ErrLarge},
	} {
		n, e := impose.CheckFolds(c.sheet, wrong)
		want(t, "CheckFolds", n, e, 0, c.e)
		pile, e := impose.Pile(c.sheet, wrong)
		want(t, "Pile", pile, e, nil, c.e)
		s, e := impose.SchemeOf(c.sheet, wrong)
		want(t, "SchemeOf", s, e, api.ImposeScheme{}, c.e)
	}
	for _, sheet := range [][2]int{{8, 4}, {4, 8}, {6, 5}, {5, 6}, {8, 1}, {1, 8}} {
		n, e := impose.CheckFolds(sheet, nil)
		want(t, "CheckFolds of a sheet without folds", n, e, 0, api.ErrOpen)
	}
}

// P6.1: what is wrong with folds.
func TestWrongFolds(t *testing.T) {
	for _, c := range wrongFolds() {
		n, e := impose.CheckFolds([2]int{3, 2}, c.folds)
		want(t, "CheckFolds of "+c.what, n, e, c.fold, c.e)
		pile, e := impose.Pile([2]int{3, 2}, c.folds)
		want(t, "Pile of "+c.what, pile, e, nil, c.e)
		s, e := impose.SchemeOf([2]int{3, 2}, c.folds)
		want(t, "SchemeOf "+c.what, s, e, api.ImposeScheme{}, c.e)
	}
	twelve := append(slices.Repeat(folds(over()), 9), left(1), left(1), up(1))
	n, e := impose.CheckFolds([2]int{3, 2}, twelve)
	want(t, "CheckFolds of twelve folds", n, e, 0, api.OK)
}

// P6.1: how many columns and rows may be laid over, of all numbers of them.
func TestHowManyAreLaidOver(t *testing.T) {
	for sides := 1; sides <= 8; sides++ {
		for count := 1; count <= 9; count++ {
			for kind := api.FoldLeft; kind <= api.FoldDown; kind++ {
				sheet := [2]int{sides, 1}
				if kind > api.FoldRight {
					sheet = [2]int{1, sides}
				}
				wantNumber, wantError := 0, api.OK
				switch {
				case 2*count > sides:
					wantError = api.ErrBreak
				case sides > 2:
					wantNumber, wantError = 1, api.ErrOpen
				}
				n, e := impose.CheckFolds(sheet, folds(api.ImposeFold{Kind: kind, Count: count}))
				want(t, "CheckFolds of one fold", n, e, wantNumber, wantError)
			}
		}
	}
}

// P6.1, P6.7: piles and schemes of made folds against the definition; the pile has each cell once, and
// the scheme reads 1, 2, 3 and so on, all upright.
func TestMadeFolds(t *testing.T) {
	m := newMaker(1)
	for range 3000 {
		sheet := m.sheet(32)
		l := m.folds(sheet)
		n, e := impose.CheckFolds(sheet, l)
		want(t, "CheckFolds", n, e, 0, api.OK)
		pile, e := impose.Pile(sheet, l)
		want(t, "Pile", pile, e, pileOf(sheet[0], sheet[1], l), api.OK)
		isThere := map[[2]int]bool{}
		for _, leaf := range pile {
			isThere[[2]int{leaf.Column, leaf.Row}] = true
		}
		if len(isThere) != sheet[0]*sheet[1] || len(pile) != len(isThere) {
			t.Errorf("Pile of %v, %v has not each cell once: %v", sheet, l, pile)
		}
		s, e := impose.SchemeOf(sheet, l)
		if e != api.OK || s.Columns != sheet[0] || s.Rows != sheet[1] {
			t.Fatalf("SchemeOf %v, %v: %v, error %d", sheet, l, s, e)
		}
		n, e = impose.CheckScheme(s)
		want(t, "CheckScheme of folds", n, e, 0, api.OK)
		want(t, "what is read", readingOf(s, l), api.OK, inOrder(len(s.Cells)), api.OK)
		want(t, "Reads of its folds", opened(t, s, l), api.OK, inOrder(len(s.Cells)), api.OK)
	}
}

// P6.7: turning all over, or round, twice changes nothing.
func TestTurnedTwice(t *testing.T) {
	m := newMaker(2)
	for range 1000 {
		sheet := m.sheet(32)
		l := m.folds(sheet)
		if len(l) > 10 {
			continue
		}
		turn := []api.ImposeFold{over(), round()}[m.Intn(2)]
		at := m.Intn(len(l) + 1)
		before, _ := impose.Pile(sheet, l)
		after, e := impose.Pile(sheet, slices.Insert(slices.Clone(l), at, turn, turn))
		want(t, "Pile turned twice", after, e, before, api.OK)
	}
}
