package forme_test

import (
	"slices"
	"testing"

	"tympan/api"
	"tympan/forme"
)

// P7.3: the forme of example 1, turned and mirrored.
func TestTurnedAndMirrored(t *testing.T) {
	f, e := forme.Turned(locked())
	want(t, "Turned", f, e, formeOf(6, 10,
		page("p", 2, 0, 4, 6), furniture("f", 2, 6, 4, 2), furniture("g", 1, 0, 1, 8), quoinDown("qa", 1, 8, 5, 2), quoinAcross("qd", 0, 0, 1, 10)), api.OK)
	f, e = forme.Mirrored(locked())
	want(t, "Mirrored", f, e, formeOf(10, 6,
		page("p", 4, 0, 6, 4), furniture("f", 2, 0, 2, 4), furniture("g", 2, 4, 8, 1), quoinAcross("qa", 0, 0, 2, 5), quoinDown("qd", 0, 5, 10, 1)), api.OK)
	f, e = forme.Turned(formeOf(3, 7))
	want(t, "Turned without pieces", f, e, formeOf(7, 3), api.OK)
	f, e = forme.Mirrored(formeOf(3, 7))
	want(t, "Mirrored without pieces", f, e, formeOf(3, 7), api.OK)
	f, e = forme.Turned(formeOf(4000, 1, page("a", 3999, 0, 1, 1)))
	want(t, "Turned of the widest chase", f, e, formeOf(1, 4000, page("a", 0, 3999, 1, 1)), api.OK)
	f, e = forme.Turned(formeOf(1, 4000, page("a", 0, 0, 1, 1)))
	want(t, "Turned of the highest chase", f, e, formeOf(4000, 1, page("a", 3999, 0, 1, 1)), api.OK)
}

// P7.3, P7.8: each point comes to where it should, also where there are gaps; turned four times, or
// mirrored twice, a forme is as before, and full if it was.
func TestTurnedBack(t *testing.T) {
	m := newMaker(4)
	for range 1000 {
		f := m.gapped(9)
		turned, e := forme.Turned(f)
		if e != api.OK || turned.Width != f.Height || turned.Height != f.Width {
			t.Fatalf("Turned of %v: %v, error %d", f, turned, e)
		}
		mirrored, e := forme.Mirrored(f)
		if e != api.OK || mirrored.Width != f.Width || mirrored.Height != f.Height {
			t.Fatalf("Mirrored of %v: %v, error %d", f, mirrored, e)
		}
		rowsOfTurned, rowsOfMirrored := points(turned), points(mirrored)
		for y, row := range points(f) {
			for x, number := range row {
				if rowsOfTurned[x][f.Height-1-y] != number || rowsOfMirrored[y][f.Width-1-x] != number {
					t.Fatalf("(%d, %d) of %v is elsewhere", x, y, f)
				}
			}
		}
		if is := isFull(t, f); isFull(t, turned) != is || isFull(t, mirrored) != is {
			t.Errorf("%v is no more as full as before", f)
		}
		back := f
		for range 4 {
			back, _ = forme.Turned(back)
		}
		want(t, "Turned four times", back, e, f, api.OK)
		back, e = forme.Mirrored(mirrored)
		want(t, "Mirrored twice", back, e, f, api.OK)
		checkKinds(t, f, turned, mirrored)
	}
}

// checkKinds looks at the names and the kinds of what is turned and mirrored.
func checkKinds(t *testing.T, f, turned, mirrored api.Forme) {
	t.Helper()
	kinds := [...]int{api.PiecePage: api.PiecePage, api.PieceFurniture: api.PieceFurniture, api.PieceQuoinAcross: api.PieceQuoinDown, api.PieceQuoinDown: api.PieceQuoinAcross}
	for i, p := range f.Pieces {
		if turned.Pieces[i].Name != p.Name || turned.Pieces[i].Kind != kinds[p.Kind] {
			t.Errorf("%v is turned to %v", p, turned.Pieces[i])
		}
		if mirrored.Pieces[i].Name != p.Name || mirrored.Pieces[i].Kind != p.Kind {
			t.Errorf("%v is mirrored to %v", p, mirrored.Pieces[i])
		}
	}
}

// P7.3: furniture by its sizes, ascending, whichever way it lies.
func TestBills(t *testing.T) {
	for _, c := range []struct {
		f    api.Forme
		want [][3]int
	}{
		{locked(), [][3]int{{4, 2, 1}, {8, 1, 1}}},
		{wheel(), [][3]int{{1, 1, 1}}},
		{formeOf(3, 3), nil},
		{formeOf(3, 3, page("p", 0, 0, 1, 1), quoinAcross("a", 1, 0, 1, 1), quoinDown("b", 2, 0, 1, 1)), nil},
		{formeOf(9, 9, furniture("a", 0, 0, 1, 3), furniture("b", 1, 0, 3, 1), furniture("c", 1, 1, 3, 1), furniture("d", 1, 2, 3, 3), furniture("e", 4, 0, 1, 1), page("f", 5, 0, 1, 3)),
			[][3]int{{1, 1, 1}, {3, 1, 3}, {3, 3, 1}}},
		{formeOf(4000, 30, furniture("a", 0, 0, 4000, 2), furniture("b", 0, 2, 20, 10), furniture("c", 20, 2, 3, 20), furniture("d", 23, 2, 100, 1)),
			[][3]int{{20, 3, 1}, {20, 10, 1}, {100, 1, 1}, {4000, 2, 1}}},
	} {
		bill, e := forme.Bill(c.f)
		want(t, "Bill", bill, e, c.want, api.OK)
	}
}

// P7.3: bills of made formes ascend, have each piece of furniture, and are the same for formes that are
// turned.
func TestAllBills(t *testing.T) {
	m := newMaker(5)
	for range 500 {
		f := m.gapped(20)
		bill, e := forme.Bill(f)
		counts := map[[2]int]int{}
		for _, p := range f.Pieces {
			if p.Kind == api.PieceFurniture {
				counts[[2]int{max(p.Width, p.Height), min(p.Width, p.Height)}]++
			}
		}
		if e != api.OK || len(bill) != len(counts) || !slices.IsSortedFunc(bill, func(a, b [3]int) int { return slices.Compare(a[:], b[:]) }) {
			t.Errorf("Bill of %v: %v, error %d", f, bill, e)
		}
		for _, b := range bill {
			if n := counts[[2]int{b[0], b[1]}]; n != b[2] {
				t.Errorf("Bill of %v: %v, want %d", f, b, n)
			}
		}
		turned, _ := forme.Turned(f)
		again, e := forme.Bill(turned)
		want(t, "Bill of what is turned", again, e, bill, api.OK)
	}
}
