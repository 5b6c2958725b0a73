package forme_test

import (
	"math/rand"
	"reflect"
	"slices"
	"strconv"
	"testing"

	"tympan/api"
	"tympan/forme"
)

// great is a number that no limit allows, small the least one of all.
const (
	great = 1<<63 - 1
	small = -great - 1
)

func pieceOf(name string, kind, x, y, width, height int) api.FormePiece {
	return api.FormePiece{Name: name, Kind: kind, X: x, Y: y, Width: width, Height: height}
}

func page(name string, x, y, width, height int) api.FormePiece {
	return pieceOf(name, api.PiecePage, x, y, width, height)
}

func furniture(name string, x, y, width, height int) api.FormePiece {
	return pieceOf(name, api.PieceFurniture, x, y, width, height)
}

func quoinAcross(name string, x, y, width, height int) api.FormePiece {
	return pieceOf(name, api.PieceQuoinAcross, x, y, width, height)
}

func quoinDown(name string, x, y, width, height int) api.FormePiece {
	return pieceOf(name, api.PieceQuoinDown, x, y, width, height)
}

func formeOf(width, height int, pieces ...api.FormePiece) api.Forme {
	return api.Forme{Width: width, Height: height, Pieces: pieces}
}

// locked is the forme of example 1, lockedReal its true sizes in example 3.
func locked() api.Forme {
	return formeOf(10, 6,
		page("p", 0, 0, 6, 4), furniture("f", 6, 0, 2, 4), furniture("g", 0, 4, 8, 1),
		quoinAcross("qa", 8, 0, 2, 5), quoinDown("qd", 0, 5, 10, 1))
}

func lockedReal() api.FormeReal {
	return api.FormeReal{Widths: []int{360, 118, 478, 120, 600}, Heights: []int{240, 240, 58, 300, 60}, Travel: make([]int, 5)}
}

// wheel is a full forme that no cut from side to side divides; its pieces are in no order.
func wheel() api.Forme {
	return formeOf(3, 3,
		furniture("mid", 1, 1, 1, 1), quoinDown("low", 1, 2, 2, 1), page("top", 0, 0, 2, 1),
		quoinAcross("end", 2, 0, 1, 2), page("side", 0, 1, 1, 2))
}

// changed is a forme with something about it changed.
func changed(f api.Forme, how func(f *api.Forme)) api.Forme {
	f.Pieces = slices.Clone(f.Pieces)
	how(&f)
	return f
}

// withPiece is the forme of example 1 with another piece in the place of one.
func withPiece(number int, p api.FormePiece) api.Forme {
	return changed(locked(), func(f *api.Forme) { f.Pieces[number] = p })
}

// realWith is the true sizes of example 3 with something about them changed.
func realWith(how func(r *api.FormeReal)) api.FormeReal {
	r := lockedReal()
	how(&r)
	return r
}

// points is the number of the piece that covers each point of a chase, row by row, or -1: the
// definition of what is covered.
func points(f api.Forme) [][]int {
	rows := make([][]int, f.Height)
	for y := range rows {
		rows[y] = slices.Repeat([]int{-1}, f.Width)
	}
	for i, p := range f.Pieces {
		for y := p.Y; y < p.Y+p.Height; y++ {
			for x := p.X; x < p.X+p.Width; x++ {
				rows[y][x] = i
			}
		}
	}
	return rows
}

// edges is the place at which a piece begins, and the one at which it ends, across or down, and its
// true size in this direction.
func edges(f api.Forme, r api.FormeReal, number int, isDown bool) (begin, end, size int) {
	p := f.Pieces[number]
	if isDown {
		return p.Y, p.Y + p.Height, r.Heights[number]
	}
	return p.X, p.X + p.Width, r.Widths[number]
}

// areNeighbours tells whether two pieces have points side by side, or one below the other.
func areNeighbours(f api.Forme, first, second int, isDown bool) bool {
	rows := points(f)
	for y := range f.Height {
		for x := range f.Width {
			nextX, nextY := x+1, y
			if isDown {
				nextX, nextY = x, y+1
			}
			if nextX < f.Width && nextY < f.Height && rows[y][x] == first && rows[nextY][nextX] == second {
				return true
			}
		}
	}
	return false
}

// chain is a chain with its length.
type chain struct {
	pieces []int
	length int
}

// chainsOf is all chains of a forme, in lexicographic order.
func chainsOf(f api.Forme, r api.FormeReal, isDown bool) []chain {
	var chains []chain
	next := make([][]int, len(f.Pieces))
	for i := range next {
		for j := range next {
			if i != j && areNeighbours(f, i, j, isDown) {
				next[i] = append(next[i], j)
			}
		}
	}
	side := f.Width
	if isDown {
		side = f.Height
	}
	var more func(c chain, i int)
	more = func(c chain, i int) {
		_, end, size := edges(f, r, i, isDown)
		c = chain{append(slices.Clone(c.pieces), i), c.length + size}
		if end == side {
			chains = append(chains, c)
		}
		for _, j := range next[i] {
			more(c, j)
		}
	}
	for i := range f.Pieces {
		if begin, _, _ := edges(f, r, i, isDown); begin == 0 {
			more(chain{}, i)
		}
	}
	return chains
}

// longestOf is the first longest chain of several ones.
func longestOf(chains []chain) chain {
	var longest chain
	for _, c := range chains {
		if c.length > longest.length {
			longest = c
		}
	}
	return longest
}

// doFit tells whether no chain is longer than the chase, by the definition.
func doFit(f api.Forme, r api.FormeReal) bool {
	return longestOf(chainsOf(f, r, false)).length <= 60*f.Width && longestOf(chainsOf(f, r, true)).length <= 60*f.Height
}

// heldOf is what holds each piece, by the definition.
func heldOf(f api.Forme, r api.FormeReal) []int {
	held := make([]int, len(f.Pieces))
	for _, isDown := range []bool{false, true} {
		side, mark := f.Width, 1
		if isDown {
			side, mark = f.Height, 2
		}
		for _, c := range chainsOf(f, r, isDown) {
			for _, i := range c.pieces {
				if c.length == 60*side {
					held[i] |= mark
				}
			}
		}
	}
	return held
}

// maker makes formes and true sizes, the same ones in every run.
type maker struct{ *rand.Rand }

func newMaker(seed int64) maker {
	return maker{rand.New(rand.NewSource(seed))}
}

// forme makes a full forme with at most so many pieces, in any order.
func (m maker) forme(most int) api.Forme {
	f := formeOf(1+m.Intn(9), 1+m.Intn(9))
	if m.Intn(4) == 0 {
		f = wheel()
		return m.named(f)
	}
	f.Pieces = []api.FormePiece{page("", 0, 0, f.Width, f.Height)}
	for range m.Intn(4 * most) {
		if len(f.Pieces) < most {
			f.Pieces = m.cut(f.Pieces)
		}
	}
	return m.named(f)
}

// cut cuts one of the pieces in two, if it can.
func (m maker) cut(pieces []api.FormePiece) []api.FormePiece {
	at := m.Intn(len(pieces))
	p := pieces[at]
	other := p
	switch {
	case m.Intn(2) == 0 && p.Width > 1:
		pieces[at].Width = 1 + m.Intn(p.Width-1)
		other.X, other.Width = p.X+pieces[at].Width, p.Width-pieces[at].Width
	case p.Height > 1:
		pieces[at].Height = 1 + m.Intn(p.Height-1)
		other.Y, other.Height = p.Y+pieces[at].Height, p.Height-pieces[at].Height
	default:
		return pieces
	}
	return append(pieces, other)
}

// named puts the pieces of a forme in any order, with names and kinds.
func (m maker) named(f api.Forme) api.Forme {
	m.Shuffle(len(f.Pieces), func(i, j int) { f.Pieces[i], f.Pieces[j] = f.Pieces[j], f.Pieces[i] })
	for i := range f.Pieces {
		f.Pieces[i].Name = "n" + strconv.Itoa(i)
		f.Pieces[i].Kind = 1 + m.Intn(4)
	}
	return f
}

// gapped makes a forme of which some pieces were taken out, perhaps.
func (m maker) gapped(most int) api.Forme {
	f := m.forme(most)
	keep := 1 + m.Intn(4)
	f.Pieces = slices.DeleteFunc(f.Pieces, func(api.FormePiece) bool { return m.Intn(4) >= keep })
	return f
}

// sizes makes true sizes of a forme: near its points, or anything; they need not fit.
func (m maker) sizes(f api.Forme) api.FormeReal {
	var r api.FormeReal
	loose, isAny := 1+m.Intn(3), m.Intn(3) == 0
	for _, p := range f.Pieces {
		width, height, travel := 60*p.Width-m.Intn(loose), 60*p.Height-m.Intn(loose), 0
		if isAny {
			width, height = 1+m.Intn(4), 1+m.Intn(4)
		}
		if p.Kind >= api.PieceQuoinAcross {
			travel = m.Intn(6)
		}
		r.Widths, r.Heights, r.Travel = append(r.Widths, width), append(r.Heights, height), append(r.Travel, travel)
	}
	return r
}

// right makes a full forme with true sizes that fit.
func (m maker) right(most int) (api.Forme, api.FormeReal) {
	f := m.forme(most)
	return f, m.sizes(f)
}

// alike tells whether two values are equal, if a nil slice and an empty one are the same.
func alike(a, b any) bool {
	return alikeValues(reflect.ValueOf(a), reflect.ValueOf(b))
}

func alikeValues(a, b reflect.Value) bool {
	switch a.Kind() {
	case reflect.Slice, reflect.Array:
		if a.Len() != b.Len() {
			return false
		}
		for i := range a.Len() {
			if !alikeValues(a.Index(i), b.Index(i)) {
				return false
			}
		}
		return true
	case reflect.Struct:
		for i := range a.NumField() {
			if !alikeValues(a.Field(i), b.Field(i)) {
				return false
			}
		}
		return true
	}
	return a.Interface() == b.Interface()
}

// want fails the test if a result with an error is not the one that is wanted.
func want[T any](t *testing.T, what string, got T, e api.Errno, wanted T, wantError api.Errno) {
	t.Helper()
	if e != wantError || !alike(got, wanted) {
		t.Errorf("%s: %v, error %d, want %v, error %d", what, got, e, wanted, wantError)
	}
}

// isFull tells whether the program finds no gap; it fails the test if there is another error.
func isFull(t *testing.T, f api.Forme) bool {
	t.Helper()
	_, e := forme.FirstGap(f)
	if e != api.OK && e != api.ErrNone {
		t.Errorf("FirstGap of %v: error %d", f, e)
	}
	return e == api.ErrNone
}
