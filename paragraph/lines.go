package paragraph

import (
	"iter"
	"slices"

	"tympan/api"
)

// Places: see the chapter.
func Places(f api.Fount, words []api.ParagraphWord) ([]api.ParagraphPlace, api.Errno) {
	if _, e := CheckWords(f, words); e != api.OK {
		return nil, e
	}
	return placesOf(words), api.OK
}

func placesOf(words []api.ParagraphWord) []api.ParagraphPlace {
	var places []api.ParagraphPlace
	for i, word := range words {
		places = append(places, api.ParagraphPlace{Word: i})
		for _, part := range word.Breaks {
			places = append(places, api.ParagraphPlace{Word: i, Part: part})
		}
	}
	return append(places, api.ParagraphPlace{Word: len(words)})
}

// place is a place of a paragraph, and all sorts ahead of it: how many there are, and how wide they
// are together.
type place struct {
	api.ParagraphPlace
	sorts, width int
}

func (p place) isWithinWord() bool {
	return p.Part > 0
}

func measuredPlaces(f api.Fount, words []api.ParagraphWord) []place {
	// ahead is how many sorts are ahead of each word, widths how wide so many sorts from the first one
	// on are.
	ahead, widths := []int{0}, []int{0}
	for i, word := range words {
		ahead = append(ahead, ahead[i]+len(word.Sorts))
		for _, sort := range word.Sorts {
			widths = append(widths, widths[len(widths)-1]+f.Sorts[sort].Width)
		}
	}
	var places []place
	for _, p := range placesOf(words) {
		sorts := ahead[p.Word] + p.Part
		places = append(places, place{p, sorts, widths[sorts]})
	}
	return places
}

// LineAt: see the chapter.
func LineAt(f api.Fount, r api.ParagraphRules, words []api.ParagraphWord, at [2]int) ([][]int, api.Errno) {
	p, e := paragraphOf(f, r, words)
	if e != api.OK {
		return nil, e
	}
	if e := p.errorOfEnds(at); e != api.OK {
		return nil, e
	}
	return p.pieces(at[0], at[1]), api.OK
}

// DemeritsOf: see the chapter.
func DemeritsOf(f api.Fount, r api.ParagraphRules, words []api.ParagraphWord, at [2]int) (int, api.Errno) {
	p, e := paragraphOf(f, r, words)
	if e != api.OK {
		return 0, e
	}
	if e := p.errorOfEnds(at); e != api.OK {
		return 0, e
	}
	l := p.measured(at[0], at[1])
	if !p.allows(l) {
		return 0, api.ErrBreak
	}
	return p.demerits(l), api.OK
}

func (p paragraph) errorOfEnds(at [2]int) api.Errno {
	if !isFrom(0, p.lastPlace(), at[0]) || !isFrom(0, p.lastPlace(), at[1]) {
		return api.ErrMissing
	}
	if at[0] >= at[1] {
		return api.ErrOrder
	}
	return api.OK
}

// pieces returns the pieces of the line from a place to a later one.
func (p paragraph) pieces(from, to int) [][]int {
	begin, end := p.places[from], p.places[to]
	var pieces [][]int
	ahead := begin.Part
	for _, word := range p.words[begin.Word:end.Word] {
		pieces = append(pieces, slices.Clone(word.Sorts[ahead:]))
		ahead = 0
	}
	if end.isWithinWord() {
		pieces = append(pieces, append(slices.Clone(p.words[end.Word].Sorts[ahead:end.Part]), p.Hyphen))
	}
	return pieces
}

// measuredLine is what is to be known of a line to judge it.
type measuredLine struct {
	gaps, sorts, room                int
	isLast, beginsWithin, endsWithin bool
}

// measured returns the line from a place to a later one.
func (p paragraph) measured(from, to int) measuredLine {
	begin, end := p.places[from], p.places[to]
	l := measuredLine{
		gaps:         end.Word - begin.Word - 1,
		sorts:        end.sorts - begin.sorts,
		room:         p.Measure - (end.width - begin.width),
		isLast:       to == p.lastPlace(),
		beginsWithin: begin.isWithinWord(),
		endsWithin:   end.isWithinWord(),
	}
	if l.endsWithin {
		// The beginning of the last word is a piece, too.
		l.gaps++
		l.sorts++
		l.room -= p.fount.Sorts[p.Hyphen].Width
	}
	if from == 0 {
		l.room -= p.Indent
	}
	return l
}

// allows tells whether a line is allowed. No piece needs to be looked at for its sorts: the beginning
// of a word has, with its hyphen, not more of them than the word.
func (p paragraph) allows(l measuredLine) bool {
	if l.gaps+1 > api.MaxLineWords || l.sorts > api.MaxLineLetters-api.MaxEndSpaces {
		return false
	}
	if l.room < l.gaps*p.Least || l.room > api.MaxLineFill {
		return false
	}
	return l.isLast || l.room <= l.gaps*p.Most
}

// isLoose tells whether a line is the last one, and has room for the gaps that it wants.
func (p paragraph) isLoose(l measuredLine) bool {
	return l.isLast && l.room >= l.gaps*p.wanted()
}

// demerits returns those of an allowed line.
func (p paragraph) demerits(l measuredLine) int {
	demerits := 0
	if l.gaps > 0 && !p.isLoose(l) {
		off := l.room - l.gaps*p.wanted()
		each := max(off, -off) / l.gaps
		demerits = each * each
	}
	if l.endsWithin {
		demerits += p.Single
		if l.beginsWithin {
			demerits += p.Double
		}
	}
	return demerits
}

// allowedFrom yields the allowed lines from a place: at which place each one ends, and its demerits.
func (p paragraph) allowedFrom(from int) iter.Seq2[int, int] {
	return func(yield func(to, demerits int) bool) {
		for to := from + 1; to < len(p.places); to++ {
			l := p.measured(from, to)
			if p.allows(l) && !yield(to, p.demerits(l)) {
				return
			}
		}
	}
}
