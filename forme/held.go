package forme

import (
	"slices"

	"tympan/api"
)

// In which directions a piece is held.
const (
	heldAcross = 1
	heldDown   = 2
)

// Held: see the chapter.
func Held(f api.Forme, r api.FormeReal) ([]int, api.Errno) {
	if _, e := CheckReal(f, r); e != api.OK {
		return nil, e
	}
	roomAcross, roomDown := across(f, r).room(), down(f, r).room()
	held := make([]int, len(f.Pieces))
	for i := range held {
		if roomAcross[i] == 0 {
			held[i] += heldAcross
		}
		if roomDown[i] == 0 {
			held[i] += heldDown
		}
	}
	return held, api.OK
}

// Loose: see the chapter.
func Loose(f api.Forme, r api.FormeReal) ([]int, api.Errno) {
	held, e := Held(f, r)
	if e != api.OK {
		return nil, e
	}
	var loose []int
	for i, directions := range held {
		if directions == 0 {
			loose = append(loose, i)
		}
	}
	return loose, api.OK
}

// Driven: see the chapter.
func Driven(f api.Forme, r api.FormeReal) (api.FormeReal, api.Errno) {
	if _, e := CheckReal(f, r); e != api.OK {
		return api.FormeReal{}, e
	}
	r = api.FormeReal{
		Widths:  slices.Clone(r.Widths),
		Heights: slices.Clone(r.Heights),
		Travel:  slices.Clone(r.Travel),
	}
	for i, p := range f.Pieces {
		switch p.Kind {
		case api.PieceQuoinAcross:
			across(f, r).drive(i, r.Travel)
		case api.PieceQuoinDown:
			down(f, r).drive(i, r.Travel)
		}
	}
	return r, api.OK
}

// drive drives a quoin that presses across as far as it goes.
func (c course) drive(quoin int, travel []int) {
	way := min(travel[quoin], c.room()[quoin])
	c.sizes[quoin] += way
	travel[quoin] -= way
}
