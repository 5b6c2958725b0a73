package paragraph

import (
	"cmp"
	"slices"

	"tympan/api"
	"tympan/fount"
	"tympan/line"
)

// Set: see the chapter.
func Set(f api.Fount, counts []int, r api.ParagraphRules, words []api.ParagraphWord) ([]api.TypeLine, int, api.Errno) {
	p, e := paragraphWith(f, counts, r, words)
	if e != api.OK {
		return nil, 0, e
	}
	w := p.bestWays()
	if !w.has(p.lastPlace()) {
		return nil, 0, api.ErrGap
	}
	return p.setAt(counts, w.breaksTo(p.lastPlace()))
}

// SetAt: see the chapter.
func SetAt(f api.Fount, counts []int, r api.ParagraphRules, words []api.ParagraphWord, breaks []int) ([]api.TypeLine, int, api.Errno) {
	p, e := paragraphWith(f, counts, r, words)
	if e != api.OK {
		return nil, 0, e
	}
	if _, e := p.demeritsAt(breaks); e != api.OK {
		return nil, 0, e
	}
	return p.setAt(counts, breaks)
}

// paragraphWith returns the paragraph of arguments, or their error or that of a case, which comes
// ahead of those of the rules.
func paragraphWith(f api.Fount, counts []int, r api.ParagraphRules, words []api.ParagraphWord) (paragraph, api.Errno) {
	if e := fount.CheckCase(f, counts); e != api.OK {
		return paragraph{}, e
	}
	return paragraphOf(f, r, words)
}

// setAt sets the lines at right breaks; beside an error is the number of its line.
func (p paragraph) setAt(counts []int, breaks []int) ([]api.TypeLine, int, api.Errno) {
	var lines []api.TypeLine
	from := 0
	for i, to := range breaks {
		l, e := p.setLine(counts, from, to)
		if e != api.OK {
			return nil, i, e
		}
		if counts, e = p.without(counts, l.Sorts); e != api.OK {
			return nil, i, e
		}
		lines = append(lines, l)
		from = to
	}
	return lines, 0, api.OK
}

func (p paragraph) setLine(counts []int, from, to int) (api.TypeLine, api.Errno) {
	indent, e := p.indentAt(from, counts)
	if e != api.OK {
		return api.TypeLine{}, e
	}
	task := api.LineTask{Fount: p.fount, Case: counts, Indent: indent, Words: p.pieces(from, to), Measure: p.Measure}
	if p.isLoose(p.measured(from, to)) {
		return line.Ragged(task, api.LineRagged{Gap: p.Gap, Side: api.LineLeft})
	}
	return line.Justify(task)
}

// indentAt returns the spaces ahead of a line that begins at a place.
func (p paragraph) indentAt(from int, counts []int) ([]int, api.Errno) {
	if from > 0 || p.Indent == 0 {
		return nil, api.OK
	}
	spaces, e := line.Fill(p.fount, counts, p.Indent)
	if e != api.OK {
		return nil, e
	}
	var indent []int
	for sort, count := range spaces {
		indent = append(indent, slices.Repeat([]int{sort}, count)...)
	}
	slices.SortStableFunc(indent, func(a, b int) int {
		return cmp.Compare(p.fount.Sorts[b].Width, p.fount.Sorts[a].Width)
	})
	return indent, api.OK
}

// without returns what a case has left when sorts are taken.
func (p paragraph) without(counts, sorts []int) ([]int, api.Errno) {
	need, e := fount.NeedOf(p.fount, sorts)
	if e != api.OK {
		return nil, e
	}
	left, _, e := fount.Taken(p.fount, counts, need)
	return left, e
}

// Lacks: see the chapter.
func Lacks(f api.Fount, counts []int, words []api.ParagraphWord) ([2]int, api.Errno) {
	if e := fount.CheckCase(f, counts); e != api.OK {
		return [2]int{}, e
	}
	if _, e := CheckWords(f, words); e != api.OK {
		return [2]int{}, e
	}
	left := slices.Clone(counts)
	for i, word := range words {
		for _, sort := range word.Sorts {
			if left[sort] == 0 {
				return [2]int{i, sort}, api.OK
			}
			left[sort]--
		}
	}
	return [2]int{}, api.ErrNone
}
