package proof

import (
	"slices"

	"tympan/api"
)

// Swapped: see the chapter.
func Swapped(a, b api.ProofMark) ([2]api.ProofMark, api.Errno) {
	if e := errorOfMarks([]api.ProofMark{a, b}); e != api.OK {
		return [2]api.ProofMark{}, e
	}
	if !exchange(&a, &b) {
		return [2]api.ProofMark{}, api.ErrClash
	}
	if !isPlace(a) || !isPlace(b) {
		return [2]api.ProofMark{}, api.ErrRange
	}
	if isEmptyDivision(a) || isEmptyDivision(b) {
		return [2]api.ProofMark{}, api.ErrForm
	}
	return [2]api.ProofMark{b, a}, api.OK
}

// exchange makes of two marks, b behind a, those that they become if b is ahead of a, and tells whether
// this can be; if not, they hang together.
func exchange(a, b *api.ProofMark) bool {
	switch {
	case a.Mark == api.MarkBreak:
		return exchangeBreak(a, b)
	case a.Mark == api.MarkJoin:
		return exchangeJoin(a, b)
	case isDivision(*b):
		return exchangeWithDivision(a, b)
	case a.Part != b.Part:
		return true
	}
	return exchangeInPart(a, b)
}

// exchangeInPart exchanges marks of words and turns of one part.
func exchangeInPart(a, b *api.ProofMark) bool {
	switch {
	case !isOfWords(*a) || !isOfWords(*b):
		return isOfWords(*a) || isOfWords(*b)
	case endAhead(*b) <= a.Word:
		a.Word += lengthens(*b)
	case b.Word >= endBehind(*a):
		b.Word -= lengthens(*a)
	default:
		return false
	}
	return true
}

// exchangeBreak exchanges a break with any mark behind it.
func exchangeBreak(a, b *api.ProofMark) bool {
	switch {
	case b.Part < a.Part:
		return exchangeWithEarlierPart(a, b)
	case b.Part > a.Part+1:
		b.Part--
	case isDivision(*b):
		return false
	case b.Mark == api.MarkTurn:
		return b.Part == a.Part
	case b.Part == a.Part:
		a.Word += lengthens(*b)
	default:
		b.Part--
		b.Word += a.Word
	}
	return true
}

// exchangeJoin exchanges a join with any mark behind it.
func exchangeJoin(a, b *api.ProofMark) bool {
	switch {
	case b.Part < a.Part:
		return exchangeWithEarlierPart(a, b)
	case b.Part > a.Part:
		b.Part++
	case isDivision(*b):
		return false
	case b.Mark == api.MarkTurn:
		return true
	case endAhead(*b) <= a.Word:
		a.Word += lengthens(*b)
	case b.Word >= a.Word:
		b.Part++
		b.Word -= a.Word
	default:
		return false
	}
	return true
}

// exchangeWithEarlierPart exchanges a break or a join with a mark behind it in a part before it.
func exchangeWithEarlierPart(a, b *api.ProofMark) bool {
	if b.Mark == api.MarkJoin && b.Part == a.Part-1 {
		return false
	}
	a.Part += effectOf(*b).parts
	return true
}

// exchangeWithDivision exchanges a mark of words or a turn with a break or a join behind it.
func exchangeWithDivision(a, b *api.ProofMark) bool {
	isJoin := b.Mark == api.MarkJoin
	switch {
	case a.Part < b.Part:
		return true
	case isJoin && a.Part == b.Part+1:
		a.Part--
		a.Word += b.Word
		return isOfWords(*a)
	case a.Part > b.Part:
		a.Part += effectOf(*b).parts
	case a.Mark == api.MarkTurn:
		return true
	case isJoin:
		b.Word -= lengthens(*a)
	case b.Word <= a.Word:
		a.Part++
		a.Word -= b.Word
	case b.Word >= endBehind(*a):
		b.Word -= lengthens(*a)
	default:
		return false
	}
	return true
}

// Stet: see the chapter.
func Stet(marks []api.ProofMark, number int) ([]api.ProofMark, int, api.Errno) {
	if e := errorOfMarks(marks); e != api.OK {
		return nil, 0, e
	}
	if !isFrom(0, len(marks)-1, number) {
		return nil, 0, api.ErrMissing
	}
	rest, left := slices.Clone(marks[:number]), marks[number]
	for i := number + 1; i < len(marks); i++ {
		pair, e := Swapped(left, marks[i])
		if e != api.OK {
			return nil, i, e
		}
		rest, left = append(rest, pair[0]), pair[1]
	}
	return rest, 0, api.OK
}

// Merged: see the chapter.
func Merged(a, b []api.ProofMark) ([]api.ProofMark, [2]int, api.Errno) {
	if e := errorOfMarks(a, b); e != api.OK {
		return nil, [2]int{}, e
	}
	if len(a)+len(b) > api.MaxMarks {
		return nil, [2]int{}, api.ErrLarge
	}
	merged, over := slices.Clone(a), slices.Clone(a)
	for k, y := range b {
		for i, x := range over {
			both, e := carriedOver(x, y)
			if e != api.OK {
				return nil, [2]int{i, k}, e
			}
			over[i], y = both[0], both[1]
		}
		merged = append(merged, y)
	}
	return merged, [2]int{}, api.OK
}

// carriedOver returns x carried over y and y carried over x, two marks of the same copy.
func carriedOver(x, y api.ProofMark) ([2]api.ProofMark, api.Errno) {
	if hangTogether(x, y) {
		return [2]api.ProofMark{}, api.ErrClash
	}
	overX, e := Swapped(inverse(x), y)
	if e != api.OK {
		return [2]api.ProofMark{}, e
	}
	overY, e := Swapped(inverse(y), x)
	if e != api.OK {
		return [2]api.ProofMark{}, e
	}
	return [2]api.ProofMark{overY[0], overX[0]}, api.OK
}

// hangTogether tells whether two marks of the same copy do.
func hangTogether(x, y api.ProofMark) bool {
	if x.Part == y.Part && x.Word == y.Word && comeBetween(x, y) {
		return true
	}
	backX, backY := inverse(x), inverse(y)
	otherX, otherY := x, y
	return !exchange(&backX, &otherY) || !exchange(&backY, &otherX)
}

// comeBetween tells whether two marks are ins, or an in and a break: if they stand at one place, none
// of them is the first one.
func comeBetween(x, y api.ProofMark) bool {
	return x.Mark == api.MarkIn && (y.Mark == api.MarkIn || y.Mark == api.MarkBreak) ||
		x.Mark == api.MarkBreak && y.Mark == api.MarkIn
}
