package impose

import "tympan/api"

// CheckFolds: see the chapter.
func CheckFolds(sheet [2]int, folds []api.ImposeFold) (int, api.Errno) {
	s := sizeOf(sheet)
	if e := s.errorOfSides(); e != api.OK {
		return 0, e
	}
	if len(folds) > api.MaxFolds {
		return 0, api.ErrLarge
	}
	for i, f := range folds {
		if e := s.errorOfFold(f); e != api.OK {
			return i, e
		}
		s = s.after(f)
	}
	if s.cells() > 1 {
		return len(folds), api.ErrOpen
	}
	return 0, api.OK
}

// Pile: see the chapter.
func Pile(sheet [2]int, folds []api.ImposeFold) ([]api.ImposeLeaf, api.Errno) {
	if _, e := CheckFolds(sheet, folds); e != api.OK {
		return nil, e
	}
	p := flat(sizeOf(sheet))
	for _, f := range folds {
		p = p.folded(f)
	}
	return p.places[0], api.OK
}

// SchemeOf: see the chapter.
func SchemeOf(sheet [2]int, folds []api.ImposeFold) (api.ImposeScheme, api.Errno) {
	leaves, e := Pile(sheet, folds)
	if e != api.OK {
		return api.ImposeScheme{}, e
	}
	s := sizeOf(sheet)
	cells := make([]api.ImposeCell, s.cells())
	for i, leaf := range leaves {
		up := api.ImposePage{Page: 2*i + 1, Turn: leaf.Round}
		below := api.ImposePage{Page: 2*i + 2, Turn: leaf.Round}
		if leaf.Over == 1 {
			up, below = below, up
		}
		cells[s.at(leaf.Column, leaf.Row)] = cellOf(up, below)
	}
	return api.ImposeScheme{Columns: s.columns, Rows: s.rows, Cells: cells}, api.OK
}

func sizeOf(sheet [2]int) size {
	return size{sheet[0], sheet[1]}
}

// errorOfFold tells whether a fold can be done.
func (s size) errorOfFold(f api.ImposeFold) api.Errno {
	if !isFrom(api.FoldLeft, api.FoldRound, f.Kind) {
		return api.ErrKind
	}
	if turnsAll(f.Kind) {
		if f.Count != 0 {
			return api.ErrRange
		}
		return api.OK
	}
	if f.Count < 1 {
		return api.ErrRange
	}
	if s.along(f.Kind)-f.Count < f.Count {
		return api.ErrBreak
	}
	return api.OK
}

// turnsAll tells whether folds of a kind turn the whole pile.
func turnsAll(kind int) bool {
	return kind == api.FoldOver || kind == api.FoldRound
}

// along returns the number of columns if folds of a kind lay columns over, of rows if they lay rows
// over.
func (s size) along(kind int) int {
	if kind == api.FoldLeft || kind == api.FoldRight {
		return s.columns
	}
	return s.rows
}

// after returns the size that is left behind a fold.
func (s size) after(f api.ImposeFold) size {
	switch f.Kind {
	case api.FoldLeft, api.FoldRight:
		s.columns -= f.Count
	case api.FoldUp, api.FoldDown:
		s.rows -= f.Count
	}
	return s
}
