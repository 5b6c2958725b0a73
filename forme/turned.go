package forme

import (
	"cmp"
	"slices"

	"tympan/api"
)

// Turned: see the chapter.
func Turned(f api.Forme) (api.Forme, api.Errno) {
	if _, e := CheckForme(f); e != api.OK {
		return api.Forme{}, e
	}
	return mirrored(transposed(f)), api.OK
}

// Mirrored: see the chapter.
func Mirrored(f api.Forme) (api.Forme, api.Errno) {
	if _, e := CheckForme(f); e != api.OK {
		return api.Forme{}, e
	}
	return mirrored(f), api.OK
}

// transposed returns the forme whose rows are the columns of a forme, and the other way round; what
// goes down in the one goes across in the other.
func transposed(f api.Forme) api.Forme {
	t := api.Forme{Width: f.Height, Height: f.Width}
	for _, p := range f.Pieces {
		t.Pieces = append(t.Pieces, api.FormePiece{
			Name: p.Name, Kind: otherKind(p.Kind),
			X: p.Y, Y: p.X, Width: p.Height, Height: p.Width,
		})
	}
	return t
}

func otherKind(kind int) int {
	switch kind {
	case api.PieceQuoinAcross:
		return api.PieceQuoinDown
	case api.PieceQuoinDown:
		return api.PieceQuoinAcross
	}
	return kind
}

// mirrored returns the forme with its left side at the right.
func mirrored(f api.Forme) api.Forme {
	f.Pieces = slices.Clone(f.Pieces)
	for i, p := range f.Pieces {
		f.Pieces[i].X = f.Width - columnsOf(p).to
	}
	return f
}

// Bill: see the chapter.
func Bill(f api.Forme) ([][3]int, api.Errno) {
	if _, e := CheckForme(f); e != api.OK {
		return nil, e
	}
	counts := map[[2]int]int{}
	for _, p := range f.Pieces {
		if p.Kind == api.PieceFurniture {
			counts[[2]int{max(p.Width, p.Height), min(p.Width, p.Height)}]++
		}
	}
	var bill [][3]int
	for size, count := range counts {
		bill = append(bill, [3]int{size[0], size[1], count})
	}
	slices.SortFunc(bill, func(a, b [3]int) int {
		return cmp.Or(cmp.Compare(a[0], b[0]), cmp.Compare(a[1], b[1]))
	})
	return bill, api.OK
}
