package fount

import (
	"cmp"
	"slices"

	"tympan/api"
)

// BillFor: see the chapter.
func BillFor(f api.Fount, need []int, total int) ([]int, api.Errno) {
	if e := errorOfCounts(f, need); e != api.OK {
		return nil, e
	}
	if total < 0 || total > api.MaxBillSize {
		return nil, api.ErrRange
	}
	sum := 0
	for _, n := range need {
		sum += n
	}
	if sum == 0 {
		return nil, api.ErrZero
	}
	return shared(need, sum, total), api.OK
}

// shared shares a total out in proportion to a need with this sum.
func shared(need []int, sum, total int) []int {
	shares, rests := make([]int, len(need)), make([]int, len(need))
	missing := total
	for i, n := range need {
		shares[i], rests[i] = total*n/sum, total*n%sum
		missing -= shares[i]
	}
	// The rests add up to missing times the sum, and each is less than the sum: so more sorts
	// than are missing have a rest, and none without one gets any.
	for _, i := range greatestFirst(rests)[:missing] {
		shares[i]++
	}
	return shares
}

// greatestFirst returns the numbers of values, those of the greatest ones first, of equal ones in
// their order.
func greatestFirst(values []int) []int {
	order := make([]int, len(values))
	for i := range order {
		order[i] = i
	}
	slices.SortStableFunc(order, func(a, b int) int {
		return cmp.Compare(values[b], values[a])
	})
	return order
}

// MetalOf: see the chapter.
func MetalOf(f api.Fount, counts []int) (int, api.Errno) {
	if e := errorOfCounts(f, counts); e != api.OK {
		return 0, e
	}
	return metalOf(f, counts), api.OK
}

func metalOf(f api.Fount, counts []int) int {
	metal := 0
	for i, n := range counts {
		metal += n * f.Sorts[i].Width * f.Body
	}
	return metal
}

// Cast: see the chapter.
func Cast(f api.Fount, metal int, bill []int) (int, int, api.Errno) {
	if _, e := CheckFount(f); e != api.OK {
		return 0, 0, e
	}
	if metal < 0 || metal > api.MaxMetal {
		return 0, 0, api.ErrRange
	}
	if e := errorOfCounts(f, bill); e != api.OK {
		return 0, 0, e
	}
	once := metalOf(f, bill)
	if once == 0 {
		return 0, 0, api.ErrZero
	}
	return metal / once, metal % once, api.OK
}
