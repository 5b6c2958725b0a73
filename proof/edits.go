package proof

import (
	"iter"
	"slices"

	"tympan/api"
)

const (
	noWord   = -1
	maxLabel = 100
)

// errorOfWords returns the first error of lists of words that are compared.
func errorOfWords(lists ...[]string) api.Errno {
	for _, words := range lists {
		if len(words) > api.MaxEdited {
			return api.ErrLarge
		}
		for _, word := range words {
			if !isWord(word) {
				return api.ErrForm
			}
		}
	}
	return api.OK
}

// comparison is words that are compared.
type comparison struct{ a, b []string }

// step is an edit from a place in both lists of words: what it costs, and the place (in the order of
// labels) to which it leads.
type step struct {
	api.WordEdit
	cost, to int
}

// labelAt returns where the label of two places stands.
func (c comparison) labelAt(i, k int) int {
	return i*(len(c.b)+1) + k
}

// lastLabel returns where the label of both ends stands.
func (c comparison) lastLabel() int {
	return c.labelAt(len(c.a), len(c.b))
}

// costOf returns what an edit of words that there are costs.
func (c comparison) costOf(x api.WordEdit) int {
	if x.From != noWord && x.To != noWord && c.a[x.From] == c.b[x.To] {
		return 0
	}
	return 1
}

// stepsFrom yields the steps from a place in the order of labels.
func (c comparison) stepsFrom(place int) iter.Seq[step] {
	return func(yield func(step) bool) {
		i, k := place/(len(c.b)+1), place%(len(c.b)+1)
		hasOut, hasIn := i < len(c.a), k < len(c.b)
		if hasOut && hasIn {
			both := api.WordEdit{From: i, To: k}
			if !yield(step{both, c.costOf(both), c.labelAt(i+1, k+1)}) {
				return
			}
		}
		if hasOut && !yield(step{api.WordEdit{From: i, To: noWord}, 1, c.labelAt(i+1, k)}) {
			return
		}
		if hasIn {
			yield(step{api.WordEdit{From: noWord, To: k}, 1, c.labelAt(i, k+1)})
		}
	}
}

// LeastEdits: see the chapter.
func LeastEdits(a, b []string) ([]api.WordEdit, []int, api.Errno) {
	if e := errorOfWords(a, b); e != api.OK {
		return nil, nil, e
	}
	edits, labels := comparison{a, b}.least()
	return edits, labels, api.OK
}

// least returns edits of least cost, and the greatest right labels.
func (c comparison) least() ([]api.WordEdit, []int) {
	last := c.lastLabel()
	labels := slices.Repeat([]int{maxLabel}, last+1)
	labels[0] = 0
	// The last step of a cheapest way to each place, and where it comes from.
	steps, origins := make([]step, last+1), make([]int, last+1)
	for place := range labels {
		for s := range c.stepsFrom(place) {
			if label := labels[place] + s.cost; label < labels[s.to] {
				labels[s.to] = label
				steps[s.to], origins[s.to] = s, place
			}
		}
	}
	var edits []api.WordEdit
	for place := last; place > 0; place = origins[place] {
		edits = append(edits, steps[place].WordEdit)
	}
	slices.Reverse(edits)
	return edits, labels
}

// CheckEdits: see the chapter.
func CheckEdits(a, b []string, l []api.WordEdit) (int, api.Errno) {
	if e := errorOfWords(a, b); e != api.OK {
		return 0, e
	}
	c := comparison{a, b}
	i, k, cost := 0, 0, 0
	for _, x := range l {
		if x.From == noWord && x.To == noWord {
			return 0, api.ErrForm
		}
		if !isNext(&i, x.From, a) || !isNext(&k, x.To, b) {
			return 0, api.ErrOrder
		}
		cost += c.costOf(x)
	}
	if i < len(a) || k < len(b) {
		return 0, api.ErrGap
	}
	return cost, api.OK
}

// isNext tells whether a number of an edit names no word, or the next one of its list, which it takes.
func isNext(next *int, number int, words []string) bool {
	if number == noWord {
		return true
	}
	if number != *next || number == len(words) {
		return false
	}
	*next++
	return true
}

// CheckEditLabels: see the chapter.
func CheckEditLabels(a, b []string, labels []int) (int, api.Errno) {
	if e := errorOfWords(a, b); e != api.OK {
		return 0, e
	}
	c := comparison{a, b}
	if len(labels) != c.lastLabel()+1 {
		return 0, api.ErrShape
	}
	for _, label := range labels {
		if !isFrom(0, maxLabel, label) {
			return 0, api.ErrRange
		}
	}
	if !c.areRight(labels) {
		return 0, api.ErrProof
	}
	return labels[c.lastLabel()], api.OK
}

func (c comparison) areRight(labels []int) bool {
	if labels[0] != 0 {
		return false
	}
	for place, label := range labels {
		for s := range c.stepsFrom(place) {
			if labels[s.to] > label+s.cost {
				return false
			}
		}
	}
	return true
}

// MarksOf: see the chapter.
func MarksOf(a, b []string, part int) ([]api.ProofMark, api.Errno) {
	if e := errorOfWords(a, b); e != api.OK {
		return nil, e
	}
	if slices.ContainsFunc(slices.Concat(a, b), isPartMark) {
		return nil, api.ErrForm
	}
	if len(a) == 0 || len(b) == 0 {
		return nil, api.ErrShape
	}
	if !isFrom(0, api.MaxCopyParts-1, part) {
		return nil, api.ErrRange
	}
	return comparison{a, b}.marks(part), api.OK
}

// isPartMark tells whether a word, as the first one of a part in the text of a copy, would be a mark.
func isPartMark(word string) bool {
	return word == "#" || word == "^"
}

// marks returns marks for edits of least cost. From the left to the right, none of them takes the only
// word out: then all of a would be out ahead of the first word of b, and changes would cost less.
func (c comparison) marks(part int) []api.ProofMark {
	edits, _ := c.least()
	var marks []api.ProofMark
	word := 0
	for _, x := range edits {
		m := api.ProofMark{Part: part, Word: word}
		switch {
		case x.To == noWord:
			m.Mark, m.Old = api.MarkOut, c.a[x.From]
		case x.From == noWord:
			m.Mark, m.New = api.MarkIn, c.b[x.To]
		case c.costOf(x) > 0:
			m.Mark, m.Old, m.New = api.MarkChange, c.a[x.From], c.b[x.To]
		}
		if m.Mark != 0 {
			marks = append(marks, m)
		}
		if x.To != noWord {
			word++
		}
	}
	return marks
}
