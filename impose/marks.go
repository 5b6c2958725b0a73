package impose

import "tympan/api"

// The most leaves of a signature, and the most thickness of one of them.
const (
	mostLeaves    = 64
	mostThickness = 10000
)

// Creep: see the chapter.
func Creep(leaves, thickness, page int) (int, api.Errno) {
	if !isFrom(1, mostLeaves, leaves) || !isFrom(0, mostThickness, thickness) || !isFrom(1, 2*leaves, page) {
		return 0, api.ErrRange
	}
	before := (page - 1) / 2
	behind := leaves - 1 - before
	return min(before, behind) * thickness, api.OK
}

// MarkAt: see the chapter.
func MarkAt(signature, spine, mark int) (int, api.Errno) {
	if !isFrom(0, api.MaxBookPages, signature) || !isFrom(1, api.MaxChase, spine) || !isFrom(1, spine, mark) {
		return 0, api.ErrRange
	}
	steps := spine / mark
	return signature % steps * mark, api.OK
}

// FirstMisplaced: see the chapter.
func FirstMisplaced(order []int) (int, api.Errno) {
	if !isFrom(1, api.MaxBookPages, len(order)) {
		return 0, api.ErrShape
	}
	for _, signature := range order {
		if !isFrom(0, api.MaxBookPages, signature) {
			return 0, api.ErrRange
		}
	}
	for place, signature := range order {
		if signature != place {
			return place, api.OK
		}
	}
	return 0, api.ErrNone
}
