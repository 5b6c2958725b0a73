package paragraph

import "tympan/api"

// Best: see the chapter.
func Best(f api.Fount, r api.ParagraphRules, words []api.ParagraphWord) ([]int, []int, int, api.Errno) {
	p, e := paragraphOf(f, r, words)
	if e != api.OK {
		return nil, nil, 0, e
	}
	w := p.bestWays()
	last := p.lastPlace()
	if !w.has(last) {
		return nil, w.labels, 0, api.ErrNone
	}
	return w.breaksTo(last), w.labels, w.labels[last], api.OK
}

// CheckBreaks: see the chapter.
func CheckBreaks(f api.Fount, r api.ParagraphRules, words []api.ParagraphWord, breaks []int) (int, api.Errno) {
	p, e := paragraphOf(f, r, words)
	if e != api.OK {
		return 0, e
	}
	return p.demeritsAt(breaks)
}

// demeritsAt returns the demerits of breaks, or what is wrong with them.
func (p paragraph) demeritsAt(breaks []int) (int, api.Errno) {
	if e := errorOfBreaks(len(p.places), breaks); e != api.OK {
		return 0, e
	}
	from, demerits := 0, 0
	for _, to := range breaks {
		l := p.measured(from, to)
		if !p.allows(l) {
			return 0, api.ErrBreak
		}
		demerits += p.demerits(l)
		from = to
	}
	return demerits, api.OK
}

// errorOfBreaks tells what is wrong with breaks of so many places, whatever the lines are.
func errorOfBreaks(places int, breaks []int) api.Errno {
	last := 0
	for _, to := range breaks {
		if !isFrom(0, places-1, to) {
			return api.ErrMissing
		}
		if to <= last {
			return api.ErrOrder
		}
		last = to
	}
	if last != places-1 {
		return api.ErrShape
	}
	return api.OK
}

// CheckLabels: see the chapter.
func CheckLabels(f api.Fount, r api.ParagraphRules, words []api.ParagraphWord, labels []int) (int, api.Errno) {
	p, e := paragraphOf(f, r, words)
	if e != api.OK {
		return 0, e
	}
	if len(labels) != len(p.places) {
		return 0, api.ErrShape
	}
	for _, label := range labels {
		if !isFrom(0, api.MostLabel, label) {
			return 0, api.ErrRange
		}
	}
	if !p.areRight(labels) {
		return 0, api.ErrProof
	}
	return labels[p.lastPlace()], api.OK
}

func (p paragraph) areRight(labels []int) bool {
	if labels[0] != 0 {
		return false
	}
	for from, label := range labels {
		for to, demerits := range p.allowedFrom(from) {
			if labels[to] > label+demerits {
				return false
			}
		}
	}
	return true
}

// BestIn: see the chapter.
func BestIn(f api.Fount, r api.ParagraphRules, words []api.ParagraphWord, lines int) ([]int, int, api.Errno) {
	p, e := paragraphOf(f, r, words)
	if e != api.OK {
		return nil, 0, e
	}
	if !isFrom(0, api.MaxBreakPlace, lines) {
		return nil, 0, api.ErrRange
	}
	last := p.lastPlace()
	in := []ways{startingWays(len(p.places))}
	for n := range lines {
		in = append(in, p.oneMore(in[n]))
	}
	if !in[lines].has(last) {
		return nil, 0, api.ErrNone
	}
	breaks := make([]int, lines)
	for n, at := lines, last; n > 0; n-- {
		breaks[n-1] = at
		at = in[n].begins[at]
	}
	return breaks, in[lines].labels[last], api.OK
}

// Fewest: see the chapter.
func Fewest(f api.Fount, r api.ParagraphRules, words []api.ParagraphWord) (int, api.Errno) {
	p, e := paragraphOf(f, r, words)
	if e != api.OK {
		return 0, e
	}
	w := startingWays(len(p.places))
	for lines := range p.places {
		if w.has(p.lastPlace()) {
			return lines, api.OK
		}
		w = p.oneMore(w)
	}
	return 0, api.ErrNone
}

// Greedy: see the chapter.
func Greedy(f api.Fount, r api.ParagraphRules, words []api.ParagraphWord) ([]int, api.Errno) {
	p, e := paragraphOf(f, r, words)
	if e != api.OK {
		return nil, e
	}
	var breaks []int
	for from := 0; from < p.lastPlace(); {
		end := from
		for to := range p.allowedFrom(from) {
			end = to
		}
		if end == from {
			return nil, api.ErrNone
		}
		breaks = append(breaks, end)
		from = end
	}
	return breaks, api.OK
}
