package forme_test

import (
	"slices"
	"strconv"
	"testing"

	"tympan/api"
	"tympan/forme"
)

// grid is the layout of example 2.
func grid() api.FormeGrid {
	return api.FormeGrid{Width: 10, Height: 7, Columns: []int{6}, Rows: []int{4}, Across: []int{0, 2}, Down: []int{0, 1}, Quoin: 2}
}

// gridWith is the layout of example 2 with something about it changed.
func gridWith(how func(g *api.FormeGrid)) api.FormeGrid {
	g := grid()
	how(&g)
	return g
}

// ones is so many numbers, all of them the same.
func ones(count, n int) []int {
	return slices.Repeat([]int{n}, count)
}

// pages is a layout of columns and rows of a point each, with no gaps but some between rows.
func pages(columns, rows int, down ...int) api.FormeGrid {
	g := api.FormeGrid{Columns: ones(columns, 1), Rows: ones(rows, 1), Across: make([]int, columns+1), Down: make([]int, rows+1), Quoin: 1}
	copy(g.Down, down)
	g.Width, g.Height = columns+1, rows+1
	for _, gap := range down {
		g.Height += gap
	}
	return g
}

// gapped is a layout of pages with a gap of a point at the left, and perhaps one at the right.
func gapped(g api.FormeGrid, isRight bool) api.FormeGrid {
	g.Across[0] = 1
	g.Width++
	if isRight {
		g.Across[len(g.Columns)] = 1
		g.Width++
	}
	return g
}

// P7.3: layouts with their pieces in their order.
func TestLayouts(t *testing.T) {
	for _, c := range []struct {
		what string
		g    api.FormeGrid
		want api.Forme
	}{
		{"example 2", grid(), formeOf(10, 7,
			page("p1", 0, 0, 6, 4), furniture("f1", 6, 0, 2, 4), furniture("f2", 0, 4, 8, 1), quoinAcross("qa", 8, 0, 2, 5), quoinDown("qd", 0, 5, 10, 2))},
		{"no gaps", api.FormeGrid{Width: 8, Height: 10, Columns: []int{2, 5}, Rows: []int{4, 5}, Across: []int{0, 0, 0}, Down: []int{0, 0, 0}, Quoin: 1}, formeOf(8, 10,
			page("p1", 0, 0, 2, 4), page("p2", 2, 0, 5, 4), page("p3", 0, 4, 2, 5), page("p4", 2, 4, 5, 5), quoinAcross("qa", 7, 0, 1, 9), quoinDown("qd", 0, 9, 8, 1))},
		{"all gaps", api.FormeGrid{Width: 19, Height: 25, Columns: []int{4, 5}, Rows: []int{6, 7}, Across: []int{1, 2, 4}, Down: []int{2, 3, 4}, Quoin: 3}, formeOf(19, 25,
			furniture("f1", 0, 0, 16, 2),
			furniture("f2", 0, 2, 1, 6), page("p1", 1, 2, 4, 6), furniture("f3", 5, 2, 2, 6), page("p2", 7, 2, 5, 6), furniture("f4", 12, 2, 4, 6),
			furniture("f5", 0, 8, 16, 3),
			furniture("f6", 0, 11, 1, 7), page("p3", 1, 11, 4, 7), furniture("f7", 5, 11, 2, 7), page("p4", 7, 11, 5, 7), furniture("f8", 12, 11, 4, 7),
			furniture("f9", 0, 18, 16, 4),
			quoinAcross("qa", 16, 0, 3, 22), quoinDown("qd", 0, 22, 19, 3))},
		{"gaps in the middle", api.FormeGrid{Width: 7, Height: 9, Columns: []int{1, 1, 1}, Rows: []int{2, 2}, Across: []int{0, 2, 0, 0}, Down: []int{0, 3, 0}, Quoin: 2}, formeOf(7, 9,
			page("p1", 0, 0, 1, 2), furniture("f1", 1, 0, 2, 2), page("p2", 3, 0, 1, 2), page("p3", 4, 0, 1, 2),
			furniture("f2", 0, 2, 5, 3),
			page("p4", 0, 5, 1, 2), furniture("f3", 1, 5, 2, 2), page("p5", 3, 5, 1, 2), page("p6", 4, 5, 1, 2),
			quoinAcross("qa", 5, 0, 2, 7), quoinDown("qd", 0, 7, 7, 2))},
		{"the greatest chase", api.FormeGrid{Width: 4000, Height: 4000, Columns: []int{1}, Rows: []int{3998}, Across: []int{3998, 0}, Down: []int{1, 0}, Quoin: 1}, formeOf(4000, 4000,
			furniture("f1", 0, 0, 3999, 1), furniture("f2", 0, 1, 3998, 3998), page("p1", 3998, 1, 1, 3998), quoinAcross("qa", 3999, 0, 1, 3999), quoinDown("qd", 0, 3999, 4000, 1))},
	} {
		f, e := forme.Layout(c.g)
		want(t, "Layout, "+c.what, f, e, c.want, api.OK)
	}
}

// P7.3: what no layout is made for, mostly with a later error, too.
func TestWrongLayouts(t *testing.T) {
	type g = api.FormeGrid
	for i, c := range []struct {
		how func(g *g)
		e   api.Errno
	}{
		{func(g *g) { *g = api.FormeGrid{} }, api.ErrRange},
		{func(g *g) { g.Width, g.Columns = 0, nil }, api.ErrRange},
		{func(g *g) { g.Height, g.Columns = 0, nil }, api.ErrRange},
		{func(g *g) { g.Width, g.Rows = 4001, nil }, api.ErrRange},
		{func(g *g) { g.Height, g.Across = 4001, nil }, api.ErrRange},
		{func(g *g) { g.Width, g.Across = -1, nil }, api.ErrRange},
		{func(g *g) { g.Width, g.Height, g.Down = great, small, nil }, api.ErrRange},
		{func(g *g) { g.Width, g.Columns = 1, nil }, api.ErrShape},
		{func(g *g) { g.Height, g.Rows = 1, nil }, api.ErrShape},
		{func(g *g) { g.Width, g.Columns = 4000, nil }, api.ErrShape},
		{func(g *g) { g.Height, g.Rows = 4000, nil }, api.ErrShape},
		{func(g *g) { g.Columns, g.Across, g.Quoin = nil, []int{0}, 0 }, api.ErrShape},
		{func(g *g) { g.Rows, g.Down, g.Quoin = nil, []int{0}, 0 }, api.ErrShape},
		{func(g *g) { g.Columns, g.Rows, g.Across, g.Down = nil, nil, nil, nil }, api.ErrShape},
		{func(g *g) { g.Across, g.Columns = []int{2}, []int{0} }, api.ErrShape},
		{func(g *g) { g.Across, g.Quoin = []int{0, 1, 1}, 0 }, api.ErrShape},
		{func(g *g) { g.Down, g.Rows = []int{1}, []int{0} }, api.ErrShape},
		{func(g *g) { g.Down, g.Quoin = []int{0, 0, 1}, 0 }, api.ErrShape},
		{func(g *g) { g.Across, g.Down = []int{-1}, nil }, api.ErrShape},
		{func(g *g) { g.Columns[0] = 0 }, api.ErrRange},
		{func(g *g) { g.Columns[0] = 4001 }, api.ErrRange},
		{func(g *g) { g.Columns[0], g.Across[1] = -1, 9 }, api.ErrRange},
		{func(g *g) { g.Rows[0] = 0 }, api.ErrRange},
		{func(g *g) { g.Rows[0] = 4001 }, api.ErrRange},
		{func(g *g) { g.Rows[0], g.Down[1] = -1, 6 }, api.ErrRange},
		{func(g *g) { g.Across[0], g.Columns[0] = -1, 7 }, api.ErrRange},
		{func(g *g) { g.Across[1] = 4001 }, api.ErrRange},
		{func(g *g) { g.Down[0], g.Rows[0] = -1, 5 }, api.ErrRange},
		{func(g *g) { g.Down[1] = 4001 }, api.ErrRange},
		{func(g *g) { g.Quoin, g.Across[1], g.Down[1] = 0, 4, 3 }, api.ErrRange},
		{func(g *g) { g.Quoin, g.Across[1], g.Down[1] = -1, 5, 4 }, api.ErrRange},
		{func(g *g) { g.Quoin = 4001 }, api.ErrRange},
		{func(g *g) { g.Quoin, g.Columns[0] = great, small }, api.ErrRange},
		{func(g *g) { g.Columns = []int{great, great}; g.Across = ones(3, great) }, api.ErrRange},
		{func(g *g) { g.Width = 1 }, api.ErrSum},
		{func(g *g) { g.Height = 1 }, api.ErrSum},
		{func(g *g) { g.Width = 11 }, api.ErrSum},
		{func(g *g) { g.Width = 9 }, api.ErrSum},
		{func(g *g) { g.Height = 6 }, api.ErrSum},
		{func(g *g) { g.Height = 8 }, api.ErrSum},
		{func(g *g) { g.Across[0] = 1 }, api.ErrSum},
		{func(g *g) { g.Down[1] = 0 }, api.ErrSum},
		{func(g *g) { g.Columns[0] = 4000 }, api.ErrSum},
		{func(g *g) { g.Rows[0] = 3 }, api.ErrSum},
		{func(g *g) { g.Quoin = 1 }, api.ErrSum},
		{func(g *g) { g.Quoin = 4000 }, api.ErrSum},
		{func(g *g) { *g = pages(59, 1); g.Width++ }, api.ErrSum},
		{func(g *g) { *g = pages(59, 1) }, api.ErrLarge},
		{func(g *g) { *g = pages(1, 59) }, api.ErrLarge},
		{func(g *g) { *g = pages(29, 2, 1) }, api.ErrLarge},
		{func(g *g) { *g = gapped(pages(58, 1), false) }, api.ErrLarge},
		{func(g *g) { *g = gapped(pages(28, 2, 1), false) }, api.ErrLarge},
		{func(g *g) { *g = gapped(pages(57, 1), true) }, api.ErrLarge},
		{func(g *g) { *g = gapped(pages(1, 20), true) }, api.ErrLarge},
		{func(g *g) { *g = pages(3999, 3999) }, api.ErrLarge},
		{func(g *g) { *g = pages(1, 58, 0, 0, 1) }, api.ErrLarge},
	} {
		f, e := forme.Layout(gridWith(c.how))
		want(t, "Layout, number "+strconv.Itoa(i), f, e, api.Forme{}, c.e)
	}
}

// P7.3: layouts with as many pieces as there may be.
func TestLargeLayouts(t *testing.T) {
	for _, g := range []api.FormeGrid{pages(58, 1), pages(1, 58), pages(29, 2), pages(2, 29), pages(57, 1, 1), pages(57, 1, 0, 1), pages(1, 56, 1, 1), pages(7, 8, 1, 0, 1),
		gapped(pages(57, 1), false), gapped(pages(56, 1), true), gapped(pages(28, 2), false), gapped(pages(27, 2), true), gapped(pages(1, 29), false), gapped(pages(1, 19, 1), true)} {
		f, e := forme.Layout(g)
		if e != api.OK || len(f.Pieces) != 60 {
			t.Errorf("Layout of %d columns and %d rows: %d pieces, error %d", len(g.Columns), len(g.Rows), len(f.Pieces), e)
		}
	}
	f, e := forme.Layout(pages(58, 1))
	if e != api.OK || f.Pieces[57].Name != "p58" || f.Pieces[9].Name != "p10" {
		t.Errorf("Layout of 58 columns: error %d, %v", e, f.Pieces)
	}
}

// grid makes a layout with at most 60 pieces.
func (m maker) grid() api.FormeGrid {
	g := api.FormeGrid{Quoin: 1 + m.Intn(5)}
	list := func(count, least int) []int {
		l := make([]int, count)
		for i := range l {
			if least > 0 || m.Intn(2) == 0 {
				l[i] = least + m.Intn(4)
			}
		}
		return l
	}
	columns, rows := 1+m.Intn(4), 1+m.Intn(4)
	g.Columns, g.Rows, g.Across, g.Down = list(columns, 1), list(rows, 1), list(columns+1, 0), list(rows+1, 0)
	g.Width, g.Height = g.Quoin, g.Quoin
	for _, n := range slices.Concat(g.Columns, g.Across) {
		g.Width += n
	}
	for _, n := range slices.Concat(g.Rows, g.Down) {
		g.Height += n
	}
	return g
}

// P7.3, P7.8: layouts are full, with a page at each column and row and quoins at the right and at the
// bottom; what is numbered is so in the order of the pieces.
func TestAllLayouts(t *testing.T) {
	m := newMaker(3)
	for range 500 {
		g := m.grid()
		f, e := forme.Layout(g)
		if e != api.OK || f.Width != g.Width || f.Height != g.Height || !isFull(t, f) {
			t.Fatalf("Layout of %v: %v, error %d", g, f, e)
		}
		n := len(f.Pieces) - 2
		want(t, "the quoins", f.Pieces[n:], e, []api.FormePiece{
			quoinAcross("qa", g.Width-g.Quoin, 0, g.Quoin, g.Height-g.Quoin), quoinDown("qd", 0, g.Height-g.Quoin, g.Width, g.Quoin)}, api.OK)
		checkPagesOf(t, g, f.Pieces[:n])
	}
}

// checkPagesOf looks at the pages and the furniture of a layout.
func checkPagesOf(t *testing.T, g api.FormeGrid, pieces []api.FormePiece) {
	t.Helper()
	var got, wanted []api.FormePiece
	furniture, strips := 0, 0
	for i, p := range pieces {
		if i > 0 && (p.Y < pieces[i-1].Y || p.Y == pieces[i-1].Y && p.X < pieces[i-1].X) {
			t.Errorf("%v of %v stands ahead of what it should", p, g)
		}
		if p.Kind == api.PiecePage {
			got = append(got, p)
			continue
		}
		furniture++
		if p.Kind != api.PieceFurniture || p.Name != "f"+strconv.Itoa(furniture) {
			t.Errorf("furniture %d of %v: %v", furniture, g, p)
		}
		if p.Width == g.Width-g.Quoin {
			strips++
		}
	}
	y := 0
	for i, height := range g.Rows {
		x := 0
		y += g.Down[i]
		for j, width := range g.Columns {
			x += g.Across[j]
			wanted = append(wanted, page("p"+strconv.Itoa(len(wanted)+1), x, y, width, height))
			x += width
		}
		y += height
	}
	want(t, "the pages", got, api.OK, wanted, api.OK)
	gaps := 0
	for _, n := range g.Down {
		if n > 0 {
			gaps++
		}
	}
	if gaps != strips {
		t.Errorf("%d gaps down, %d pieces for them: %v", gaps, strips, g)
	}
}
