package press

import (
	"iter"
	"slices"

	"tympan/api"
)

// errorOfOrder tells what is wrong with an order of so many things.
func errorOfOrder(order []int, count int) api.Errno {
	if len(order) != count {
		return api.ErrShape
	}
	stands := make([]bool, count)
	for _, thing := range order {
		if !isFrom(0, count-1, thing) {
			return api.ErrMissing
		}
		if stands[thing] {
			return api.ErrDouble
		}
		stands[thing] = true
	}
	return api.OK
}

// errorOfRows tells what is wrong with the rows of a table of minutes that has as many columns; the
// numbers are at least so great.
func errorOfRows(table [][]int, least int) api.Errno {
	for _, row := range table {
		if len(row) != len(table) {
			return api.ErrShape
		}
		for _, n := range row {
			if !isFrom(least, api.MaxRunMinutes, n) {
				return api.ErrRange
			}
		}
	}
	return api.OK
}

// orders yields the orders of so many things, the lexicographically first one first. It makes the next
// one of the one before.
func orders(count int) iter.Seq[[]int] {
	return func(yield func([]int) bool) {
		var order []int
		for thing := range count {
			order = append(order, thing)
		}
		for yield(order) && isAdvanced(order) {
		}
	}
}

// isAdvanced makes the next one of an order, and tells whether there is one.
func isAdvanced(order []int) bool {
	// The things behind the last ascent descend: there is no later order of them alone.
	at := len(order) - 2
	for at >= 0 && order[at] > order[at+1] {
		at--
	}
	if at < 0 {
		return false
	}
	next := len(order) - 1
	for order[next] < order[at] {
		next--
	}
	order[at], order[next] = order[next], order[at]
	slices.Reverse(order[at+1:])
	return true
}

// leastOrder returns the first order of so many things that takes least, and what it takes, or ErrNone
// if all of them have an error.
func leastOrder(count int, taken func(order []int) (int, api.Errno)) ([]int, int, api.Errno) {
	var first []int
	least, found := 0, api.ErrNone
	for order := range orders(count) {
		minutes, e := taken(order)
		if e == api.OK && (found != api.OK || minutes < least) {
			first, least, found = slices.Clone(order), minutes, api.OK
		}
	}
	return first, least, found
}

func errorOfReadyTable(minutes [][]int) api.Errno {
	if len(minutes) > api.MaxReady {
		return api.ErrLarge
	}
	return errorOfRows(minutes, 0)
}

// MakeReady: see the chapter.
func MakeReady(minutes [][]int, order []int) (int, api.Errno) {
	if e := errorOfReadyTable(minutes); e != api.OK {
		return 0, e
	}
	if e := errorOfOrder(order, len(minutes)); e != api.OK {
		return 0, e
	}
	return makeReady(minutes, order), api.OK
}

// makeReady returns what a right order of the jobs of a right table takes.
func makeReady(minutes [][]int, order []int) int {
	sum := 0
	for place, job := range order {
		before := order[max(place-1, 0)]
		sum += minutes[before][job]
	}
	return sum
}

// LeastMakeReady: see the chapter.
func LeastMakeReady(minutes [][]int) ([]int, int, api.Errno) {
	if e := errorOfReadyTable(minutes); e != api.OK {
		return nil, 0, e
	}
	return leastOrder(len(minutes), func(order []int) (int, api.Errno) {
		return makeReady(minutes, order), api.OK
	})
}
