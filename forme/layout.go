package forme

import (
	"strconv"

	"tympan/api"
)

// Layout: see the chapter.
func Layout(g api.FormeGrid) (api.Forme, api.Errno) {
	if e := errorOfGrid(g); e != api.OK {
		return api.Forme{}, e
	}
	l := layout{Forme: api.Forme{Width: g.Width, Height: g.Height}}
	width, height := g.Width-g.Quoin, g.Height-g.Quoin
	y := 0
	for i, row := range g.Rows {
		l.addFurniture(0, y, width, g.Down[i])
		y += g.Down[i]
		l.addRow(g, y, row)
		y += row
	}
	l.addFurniture(0, y, width, height-y)
	l.add("qa", api.PieceQuoinAcross, width, 0, g.Quoin, height)
	l.add("qd", api.PieceQuoinDown, 0, height, g.Width, g.Quoin)
	return l.Forme, api.OK
}

func errorOfGrid(g api.FormeGrid) api.Errno {
	if !areFrom(1, api.MaxChase, []int{g.Width, g.Height}) {
		return api.ErrRange
	}
	columns, rows := len(g.Columns), len(g.Rows)
	if columns == 0 || rows == 0 || !haveLength(columns+1, g.Across) || !haveLength(rows+1, g.Down) {
		return api.ErrShape
	}
	if !areFrom(1, api.MaxChase, g.Columns, g.Rows, []int{g.Quoin}) || !areFrom(0, api.MaxChase, g.Across, g.Down) {
		return api.ErrRange
	}
	if sumOf(g.Columns, g.Across)+g.Quoin != g.Width || sumOf(g.Rows, g.Down)+g.Quoin != g.Height {
		return api.ErrSum
	}
	quoins := 2
	if rows*(columns+gapsOf(g.Across))+gapsOf(g.Down)+quoins > api.MaxPieces {
		return api.ErrLarge
	}
	return api.OK
}

// areFrom tells whether all numbers of all lists are from lo to hi.
func areFrom(lo, hi int, lists ...[]int) bool {
	for _, list := range lists {
		for _, n := range list {
			if !isFrom(lo, hi, n) {
				return false
			}
		}
	}
	return true
}

// haveLength tells whether all lists have so many items.
func haveLength(length int, lists ...[]int) bool {
	for _, list := range lists {
		if len(list) != length {
			return false
		}
	}
	return true
}

// sumOf returns the sum of the numbers of all lists.
func sumOf(lists ...[]int) int {
	sum := 0
	for _, list := range lists {
		for _, n := range list {
			sum += n
		}
	}
	return sum
}

// gapsOf returns how many of some gaps are to be filled with furniture.
func gapsOf(gaps []int) int {
	count := 0
	for _, gap := range gaps {
		if gap != 0 {
			count++
		}
	}
	return count
}

// layout is a forme into which pieces are laid, with the numbers of its pages and of its furniture so
// far.
type layout struct {
	api.Forme
	pages, furniture int
}

func (l *layout) add(name string, kind, x, y, width, height int) {
	p := api.FormePiece{Name: name, Kind: kind, X: x, Y: y, Width: width, Height: height}
	l.Pieces = append(l.Pieces, p)
}

// addFurniture fills a gap, if there is one.
func (l *layout) addFurniture(x, y, width, height int) {
	if width == 0 || height == 0 {
		return
	}
	l.furniture++
	l.add("f"+strconv.Itoa(l.furniture), api.PieceFurniture, x, y, width, height)
}

// addRow lays the pages of a row, with the furniture around them.
func (l *layout) addRow(g api.FormeGrid, y, height int) {
	x := 0
	for i, column := range g.Columns {
		l.addFurniture(x, y, g.Across[i], height)
		x += g.Across[i]
		l.pages++
		l.add("p"+strconv.Itoa(l.pages), api.PiecePage, x, y, column, height)
		x += column
	}
	l.addFurniture(x, y, g.Width-g.Quoin-x, height)
}
