package paragraph

import (
	"slices"

	"tympan/api"
)

// ways is, for each place, the least demerits of lines that lead there from the place 0 (MostLabel if
// none do), and where the last one of these lines begins.
type ways struct{ labels, begins []int }

func noWays(places int) ways {
	return ways{slices.Repeat([]int{api.MostLabel}, places), make([]int, places)}
}

// startingWays are those without a line.
func startingWays(places int) ways {
	w := noWays(places)
	w.labels[0] = 0
	return w
}

func (w ways) has(place int) bool {
	return w.labels[place] < api.MostLabel
}

// offer takes a line as the last one to a place if no other way there has as few demerits.
func (w ways) offer(from, to, demerits int) {
	if demerits < w.labels[to] {
		w.labels[to], w.begins[to] = demerits, from
	}
}

// breaksTo returns the ends of the lines that lead to a place.
func (w ways) breaksTo(place int) []int {
	var breaks []int
	for place > 0 {
		breaks = append(breaks, place)
		place = w.begins[place]
	}
	slices.Reverse(breaks)
	return breaks
}

// extend offers to ways the allowed lines from a place, each one behind those that lead there.
func (p paragraph) extend(w ways, from int, behind ways) {
	if !behind.has(from) {
		return
	}
	for to, demerits := range p.allowedFrom(from) {
		w.offer(from, to, behind.labels[from]+demerits)
	}
}

// bestWays returns the ways with the least demerits. Lines lead to later places only, so that the label
// of a place is known once lines from it are offered.
func (p paragraph) bestWays() ways {
	w := startingWays(len(p.places))
	for from := range p.places {
		p.extend(w, from, w)
	}
	return w
}

// oneMore returns the ways with one line more that have the least demerits.
func (p paragraph) oneMore(w ways) ways {
	more := noWays(len(p.places))
	for from := range p.places {
		p.extend(more, from, w)
	}
	return more
}
