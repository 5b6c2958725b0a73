package impose

import "tympan/api"

// The fewest and the most pages of a signature.
const (
	leastSignature = 2
	mostSignature  = 64
)

// CheckBook: see the chapter.
func CheckBook(b api.ImposeBook) (int, api.Errno) {
	if !isFrom(1, api.MaxBookPages, b.Pages) || !isFrom(leastSignature, mostSignature, b.PerSignature) {
		return 0, api.ErrRange
	}
	if b.PerSignature%2 != 0 {
		return 0, api.ErrForm
	}
	if place, e := errorOfPlaces(b.Plates, 0, b.Pages, 0); e != api.OK {
		return place, e
	}
	return errorOfPlaces(b.Cancels, 1, b.Pages, 1)
}

// errorOfPlaces tells what is wrong with a list of numbers from lo to hi, each of which is greater than
// the one before at least by step.
func errorOfPlaces(list []int, lo, hi, step int) (int, api.Errno) {
	if len(list) > api.MaxPlates {
		return 0, api.ErrLarge
	}
	for i, n := range list {
		if !isFrom(lo, hi, n) {
			return i, api.ErrRange
		}
		if i > 0 && n < list[i-1]+step {
			return i, api.ErrOrder
		}
	}
	return 0, api.OK
}

// Signatures: see the chapter.
func Signatures(b api.ImposeBook) ([]api.Range, int, api.Errno) {
	if _, e := CheckBook(b); e != api.OK {
		return nil, 0, e
	}
	var signatures []api.Range
	end := 0
	for end < b.Pages {
		begin := end + 1
		end += b.PerSignature
		signatures = append(signatures, api.Range{Lo: begin, Hi: min(end, b.Pages)})
	}
	return signatures, end - b.Pages, api.OK
}

// Bound: see the chapter.
func Bound(b api.ImposeBook) ([]int, api.Errno) {
	if _, e := CheckBook(b); e != api.OK {
		return nil, e
	}
	plates := map[int]int{}
	for _, page := range b.Plates {
		plates[page]++
	}
	isCancelled := map[int]bool{}
	for _, page := range b.Cancels {
		isCancelled[page] = true
	}
	bound := addPlates(nil, plates[0])
	for i := range b.Pages {
		page := i + 1
		if isCancelled[page] {
			bound = append(bound, 0)
		} else {
			bound = append(bound, page)
		}
		bound = addPlates(bound, plates[page])
	}
	return bound, api.OK
}

func addPlates(bound []int, plates int) []int {
	for range plates {
		bound = append(bound, -1)
	}
	return bound
}
