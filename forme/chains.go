package forme

import (
	"slices"

	"tympan/api"
)

// The greatest true size of a piece, and the most that a quoin may still be driven, in units.
const (
	maxSize   = 480000
	maxTravel = 6000
)

// CheckReal: see the chapter.
func CheckReal(f api.Forme, r api.FormeReal) (int, api.Errno) {
	if number, e := errorOfSizes(f, r); e != api.OK {
		return number, e
	}
	if !across(f, r).fits() || !down(f, r).fits() {
		return 0, api.ErrBreak
	}
	return 0, api.OK
}

// errorOfSizes tells what is wrong with true sizes, and with which piece; whether they fit is not asked.
func errorOfSizes(f api.Forme, r api.FormeReal) (int, api.Errno) {
	if _, e := CheckForme(f); e != api.OK {
		return 0, e
	}
	if !isFull(f) {
		return 0, api.ErrGap
	}
	if !haveLength(len(f.Pieces), r.Widths, r.Heights, r.Travel) {
		return 0, api.ErrShape
	}
	for i, p := range f.Pieces {
		if !areFrom(1, maxSize, []int{r.Widths[i], r.Heights[i]}) || !isFrom(0, maxTravel, r.Travel[i]) {
			return i, api.ErrRange
		}
		if r.Travel[i] != 0 && p.Kind != api.PieceQuoinAcross && p.Kind != api.PieceQuoinDown {
			return i, api.ErrForm
		}
	}
	return 0, api.OK
}

// course is a full forme that chains go across, and what its pieces measure along them. Chains down
// go across the transposed forme.
type course struct {
	api.Forme
	sizes []int
}

func across(f api.Forme, r api.FormeReal) course {
	return course{f, r.Widths}
}

func down(f api.Forme, r api.FormeReal) course {
	return course{transposed(f), r.Heights}
}

// LongestAcross: see the chapter.
func LongestAcross(f api.Forme, r api.FormeReal) (int, []int, api.Errno) {
	return longestIn(f, r, across)
}

// LongestDown: see the chapter.
func LongestDown(f api.Forme, r api.FormeReal) (int, []int, api.Errno) {
	return longestIn(f, r, down)
}

func longestIn(f api.Forme, r api.FormeReal, direction func(api.Forme, api.FormeReal) course) (int, []int, api.Errno) {
	if _, e := errorOfSizes(f, r); e != api.OK {
		return 0, nil, e
	}
	length, chain := direction(f, r).longest()
	return length, chain, api.OK
}

// isLeftOf tells whether a piece is a left neighbour of another one.
func (c course) isLeftOf(left, right int) bool {
	p, other := c.Pieces[left], c.Pieces[right]
	return columnsOf(p).to == other.X && rowsOf(p).meets(rowsOf(other))
}

// follows tells whether a piece may come next in a chain that has begun so, or begin one.
func (c course) follows(chain []int, piece int) bool {
	if len(chain) == 0 {
		return c.Pieces[piece].X == 0
	}
	return c.isLeftOf(chain[len(chain)-1], piece)
}

// lengths returns, for each piece, the greatest length of what chains have from it on to the right.
func (c course) lengths() []int {
	order := make([]int, len(c.Pieces))
	for i := range order {
		order[i] = i
	}
	sortFromLeft(c.Forme, order)
	lengths := make([]int, len(c.Pieces))
	for _, i := range slices.Backward(order) {
		behind := 0
		for j := range c.Pieces {
			if c.isLeftOf(i, j) {
				behind = max(behind, lengths[j])
			}
		}
		lengths[i] = c.sizes[i] + behind
	}
	return lengths
}

// longest returns the length of the longest chains, and the lexicographically first one of them.
func (c course) longest() (int, []int) {
	lengths := c.lengths()
	length := slices.Max(lengths)
	var chain []int
	for left := length; left > 0; {
		next := 0
		for lengths[next] != left || !c.follows(chain, next) {
			next++
		}
		chain = append(chain, next)
		left -= c.sizes[next]
	}
	return length, chain
}

// room returns, for each piece, how many units the longest chain that it is in is less than the chase.
func (c course) room() []int {
	onward, backward := c.lengths(), course{mirrored(c.Forme), c.sizes}.lengths()
	room := make([]int, len(c.Pieces))
	for i, size := range c.sizes {
		room[i] = c.Width*api.PointUnits - (onward[i] + backward[i] - size)
	}
	return room
}

func (c course) fits() bool {
	return slices.Min(c.room()) >= 0
}

// CheckChain: see the chapter.
func CheckChain(f api.Forme, r api.FormeReal, c api.FormeChain) (int, api.Errno) {
	if _, e := errorOfSizes(f, r); e != api.OK {
		return 0, e
	}
	if len(c.Pieces) == 0 {
		return 0, api.ErrShape
	}
	if !areFrom(0, len(f.Pieces)-1, c.Pieces) {
		return 0, api.ErrMissing
	}
	if c.Down {
		return down(f, r).lengthOf(c.Pieces)
	}
	return across(f, r).lengthOf(c.Pieces)
}

// lengthOf returns the length of a chain of pieces that there are, or the error that it is none.
func (c course) lengthOf(chain []int) (int, api.Errno) {
	length := 0
	for k, i := range chain {
		if !c.follows(chain[:k], i) {
			return 0, api.ErrOpen
		}
		length += c.sizes[i]
	}
	if columnsOf(c.Pieces[chain[len(chain)-1]]).to != c.Width {
		return 0, api.ErrOpen
	}
	return length, api.OK
}
