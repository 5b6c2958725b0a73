package impose

import (
	"slices"

	"tympan/api"
)

// pile is a sheet as it is folded so far: at each place its leaves, from the top.
type pile struct {
	size
	places [][]api.ImposeLeaf
}

// flat returns the pile with which a sheet begins.
func flat(s size) pile {
	p := pile{size: s}
	for row := range s.rows {
		for column := range s.columns {
			p.places = append(p.places, []api.ImposeLeaf{{Column: column, Row: row}})
		}
	}
	return p
}

// folded returns the pile behind a fold that can be done.
func (p pile) folded(f api.ImposeFold) pile {
	after := pile{size: p.size.after(f)}
	after.places = make([][]api.ImposeLeaf, after.cells())
	for row := range p.rows {
		for column := range p.columns {
			w := p.wayOf(f, column, row)
			leaves := w.turn(p.places[p.at(column, row)])
			to := &after.places[after.at(w.column, w.row)]
			if w.over == 1 {
				*to = append(leaves, *to...)
			} else {
				*to = append(*to, leaves...)
			}
		}
	}
	return after
}

// way is where a fold brings what lies at a place, and whether this is turned over, and round.
type way struct{ column, row, over, round int }

// wayOf returns the way of what lies at a place. Folds to the right are folds to the left of columns
// that are counted from the right; rows likewise.
func (p pile) wayOf(f api.ImposeFold, column, row int) way {
	lastColumn, lastRow := p.columns-1, p.rows-1
	switch f.Kind {
	case api.FoldLeft:
		to, over := laidBack(column, p.columns-f.Count)
		return way{to, row, over, 0}
	case api.FoldRight:
		to, over := laidBack(lastColumn-column, p.columns-f.Count)
		return way{lastColumn - f.Count - to, row, over, 0}
	case api.FoldUp:
		to, over := laidBack(row, p.rows-f.Count)
		return way{column, to, over, over}
	case api.FoldDown:
		to, over := laidBack(lastRow-row, p.rows-f.Count)
		return way{column, lastRow - f.Count - to, over, over}
	case api.FoldOver:
		return way{lastColumn - column, row, 1, 0}
	}
	return way{lastColumn - column, lastRow - row, 0, 1}
}

// laidBack returns where a column comes to if those from the edge on are laid over the ones ahead of
// it, and 1 if it is one of them.
func laidBack(column, edge int) (int, int) {
	if column < edge {
		return column, 0
	}
	return 2*edge - 1 - column, 1
}

// turn returns new leaves for those that lie at a place, as they lie behind the fold.
func (w way) turn(leaves []api.ImposeLeaf) []api.ImposeLeaf {
	leaves = slices.Clone(leaves)
	for i := range leaves {
		leaves[i].Over ^= w.over
		leaves[i].Round ^= w.round
	}
	if w.over == 1 {
		slices.Reverse(leaves)
	}
	return leaves
}
