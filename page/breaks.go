package page

import (
	"slices"

	"tympan/api"
)

// Best: see the chapter.
func Best(g api.PageGalley, r api.PageRules) ([]int, []int, int, api.Errno) {
	b, e := bookOf(g, r)
	if e != api.OK {
		return nil, nil, 0, e
	}
	if b.end() == 0 {
		return nil, nil, 0, api.ErrShape
	}
	labels, begins := b.leastCosts()
	cost := labels[b.end()]
	if cost == api.MaxPageCost {
		return nil, nil, 0, api.ErrNone
	}
	return breaksTo(b.end(), begins), labels, cost, api.OK
}

// leastCosts returns for each place the least cost of pages that lead there from the place 0
// (MaxPageCost if none do), and where the last one of these pages begins. Pages lead to later places
// only, so that the cost of a place is known once the pages to it have been looked at.
func (b book) leastCosts() (costs, begins []int) {
	costs = slices.Repeat([]int{api.MaxPageCost}, b.end()+1)
	begins = make([]int, b.end()+1)
	costs[0] = 0
	for from := range b.end() {
		for to, cost := range b.possibleFrom(from) {
			if cost += costs[from]; cost < costs[to] {
				costs[to], begins[to] = cost, from
			}
		}
	}
	return costs, begins
}

// breaksTo returns the ends of the pages that lead to a place.
func breaksTo(place int, begins []int) []int {
	var breaks []int
	for place > 0 {
		breaks = append(breaks, place)
		place = begins[place]
	}
	slices.Reverse(breaks)
	return breaks
}

// CheckBreaks: see the chapter.
func CheckBreaks(g api.PageGalley, r api.PageRules, breaks []int) (int, api.Errno) {
	b, e := bookOf(g, r)
	if e != api.OK {
		return 0, e
	}
	from, all := 0, 0
	for _, to := range breaks {
		if !isFrom(0, b.end(), to) {
			return 0, api.ErrRange
		}
		if to <= from {
			return 0, api.ErrOrder
		}
		cost, e := b.cost(from, to)
		if e != api.OK {
			return 0, e
		}
		all += cost
		from = to
	}
	if len(breaks) == 0 || from < b.end() {
		return 0, api.ErrGap
	}
	return all, api.OK
}

// CheckLabels: see the chapter.
func CheckLabels(g api.PageGalley, r api.PageRules, labels []int) (int, api.Errno) {
	b, e := bookOf(g, r)
	if e != api.OK {
		return 0, e
	}
	if len(labels) != b.end()+1 {
		return 0, api.ErrShape
	}
	for _, label := range labels {
		if !isFrom(0, api.MaxPageCost, label) {
			return 0, api.ErrRange
		}
	}
	if !b.areRight(labels) {
		return 0, api.ErrProof
	}
	return labels[b.end()], api.OK
}

func (b book) areRight(labels []int) bool {
	if labels[0] != 0 {
		return false
	}
	for from, label := range labels {
		for to, cost := range b.possibleFrom(from) {
			if labels[to] > label+cost {
				return false
			}
		}
	}
	return true
}

// Greedy: see the chapter.
func Greedy(g api.PageGalley, r api.PageRules) ([]int, api.Errno) {
	b, e := bookOf(g, r)
	if e != api.OK {
		return nil, e
	}
	if b.end() == 0 {
		return nil, api.ErrShape
	}
	var breaks []int
	for from := 0; from < b.end(); {
		longest := from
		for to := range b.possibleFrom(from) {
			longest = to
		}
		if longest == from {
			return nil, api.ErrNone
		}
		breaks = append(breaks, longest)
		from = longest
	}
	return breaks, api.OK
}
