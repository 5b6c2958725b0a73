package line_test

import (
	"math/rand"
	"reflect"
	"slices"
	"strconv"
	"testing"

	"tympan/api"
)

// roman is the fount of the chapter's examples.
func roman() api.Fount {
	return api.Fount{Name: "rom", Body: 10, Sorts: []api.TypeSort{
		{Name: "a", Text: "a", Kind: api.SortLetter, Width: 300},
		{Name: "b", Text: "b", Kind: api.SortLetter, Width: 330},
		{Name: "fi", Text: "fi", Kind: api.SortLigature, Width: 360},
		{Name: "thick", Kind: api.SortSpace, Width: 200},
		{Name: "thin", Kind: api.SortSpace, Width: 120},
	}}
}

// spaced is a fount of a letter a (300 units, number 0) and of spaces of these widths.
func spaced(widths ...int) api.Fount {
	f := api.Fount{Name: "spaced", Body: 10, Sorts: roman().Sorts[:1]}
	for i, width := range widths {
		f.Sorts = append(f.Sorts, api.TypeSort{Name: "s" + strconv.Itoa(i), Kind: api.SortSpace, Width: width})
	}
	return f
}

// example is the task of the chapter's first example, with another measure.
func example(measure int) api.LineTask {
	return api.LineTask{Fount: roman(), Case: []int{10, 10, 10, 10, 10}, Words: [][]int{{0}, {1}, {2}}, Measure: measure}
}

// filling is a task of so many words a, and of a fill, with so many of each space.
func filling(fill, words int, f api.Fount, spaces ...int) api.LineTask {
	return api.LineTask{
		Fount:   f,
		Case:    append([]int{words}, spaces...),
		Words:   slices.Repeat([][]int{{0}}, words),
		Measure: 300*words + fill,
	}
}

// changed is a task with something about it changed.
func changed(t api.LineTask, how func(t *api.LineTask)) api.LineTask {
	how(&t)
	return t
}

// badFounts has a fount for several errors, with that error.
func badFounts() map[api.Errno]api.Fount {
	change := func(how func(f *api.Fount)) api.Fount {
		f := roman()
		how(&f)
		return f
	}
	return map[api.Errno]api.Fount{
		api.ErrName:   change(func(f *api.Fount) { f.Name = "" }),
		api.ErrRange:  change(func(f *api.Fount) { f.Body = 0 }),
		api.ErrShape:  change(func(f *api.Fount) { f.Sorts = nil }),
		api.ErrExists: change(func(f *api.Fount) { f.Sorts[4].Name = "a" }),
		api.ErrForm:   change(func(f *api.Fount) { f.Sorts[4].Text = "x" }),
		api.ErrClash:  change(func(f *api.Fount) { f.Sorts[1].Text = "a" }),
	}
}

// isZero tells whether all results are zero values; an empty slice is one, in a line also.
func isZero(results []any) bool {
	for _, r := range results {
		if l, ok := r.(api.TypeLine); ok && l.Measure == 0 && len(l.Sorts) == 0 {
			continue
		}
		v := reflect.ValueOf(r)
		if v.Kind() == reflect.Slice {
			if v.Len() != 0 {
				return false
			}
		} else if !v.IsZero() {
			return false
		}
	}
	return true
}

func results(e api.Errno, r ...any) ([]any, api.Errno) {
	return r, e
}

// wantList fails the test if a list with an error is not the one that is wanted.
func wantList(t *testing.T, what string, got []int, e api.Errno, want []int, wantError api.Errno) {
	t.Helper()
	if e != wantError || !slices.Equal(got, want) {
		t.Errorf("%s: %v, error %d, want %v, error %d", what, got, e, want, wantError)
	}
}

// wantLine does the same of a line, with "" for the zero value.
func wantLine(t *testing.T, what string, got api.TypeLine, e api.Errno, want string, wantError api.Errno) {
	t.Helper()
	text := textOf(got)
	if text == "0" {
		text = ""
	}
	if e != wantError || text != want {
		t.Errorf("%s: %q, error %d, want %q, error %d", what, text, e, want, wantError)
	}
}

// textOf is the text of a line.
func textOf(l api.TypeLine) string {
	s := strconv.Itoa(l.Measure)
	for _, sort := range l.Sorts {
		s += " " + strconv.Itoa(sort)
	}
	return s
}

func lineOf(measure int, sorts ...int) api.TypeLine {
	return api.TypeLine{Measure: measure, Sorts: sorts}
}

// maker makes tasks, the same ones in every run.
type maker struct{ *rand.Rand }

func newMaker(seed int64) maker {
	return maker{rand.New(rand.NewSource(seed))}
}

// task makes a small task without errors, mostly with a fill from 0 on. The widths of its spaces
// often have a common divisor, and some are equal.
func (m maker) task() api.LineTask {
	t := api.LineTask{Fount: api.Fount{Name: "made", Body: 12}, Measure: 1}
	step := 1 + m.Intn(3)
	var letters, spaces []int
	for i := range 2 + m.Intn(5) {
		s := api.TypeSort{Name: "s" + strconv.Itoa(i), Kind: api.SortSpace, Width: step * (1 + m.Intn(6))}
		if i == 0 || m.Intn(3) == 0 {
			s.Kind, s.Text = api.SortLetter, string(rune('a'+i))
			letters = append(letters, i)
		} else {
			spaces = append(spaces, i)
		}
		t.Fount.Sorts = append(t.Fount.Sorts, s)
		t.Case = append(t.Case, m.Intn(9))
	}
	for _, sort := range letters {
		t.Case[sort] += 8
	}
	for len(spaces) > 0 && m.Intn(3) == 0 {
		t.Indent = append(t.Indent, spaces[m.Intn(len(spaces))])
	}
	for range m.Intn(6) {
		var word []int
		for range 1 + m.Intn(2) {
			word = append(word, letters[m.Intn(len(letters))])
		}
		t.Words = append(t.Words, word)
	}
	fill := step * m.Intn(12*max(len(t.Words)-1, 1))
	if m.Intn(6) == 0 {
		fill += 1 - m.Intn(3)
	}
	t.Measure = max(1, widthOf(t.Fount, t.Indent)+widthOf(t.Fount, slices.Concat(t.Words...))+fill)
	return t
}

func widthOf(f api.Fount, sorts []int) int {
	width := 0
	for _, sort := range sorts {
		width += f.Sorts[sort].Width
	}
	return width
}

func isSpace(f api.Fount, sort int) bool {
	return f.Sorts[sort].Kind == api.SortSpace
}

// room is the fill and the gaps of a task without errors, and what its case has left, as the chapter
// defines them; the error is that of the fill.
type room struct {
	fill, gaps int
	left       []int
}

func roomOf(t api.LineTask) (room, api.Errno) {
	r := room{fill: t.Measure, left: slices.Clone(t.Case)}
	for i, word := range t.Words {
		if i > 0 {
			r.gaps++
		}
		r.fill -= widthOf(t.Fount, word)
	}
	r.fill -= widthOf(t.Fount, t.Indent)
	for _, sort := range append(slices.Concat(t.Words...), t.Indent...) {
		r.left[sort]--
	}
	switch {
	case slices.Min(r.left) < 0:
		return r, api.ErrStock
	case r.fill < 0:
		return r, api.ErrBreak
	case r.fill > 20000:
		return r, api.ErrLarge
	}
	return r, api.OK
}

// mosts is the most of each space of a task, and 0 of other sorts.
func (r room) mosts(f api.Fount) []int {
	mosts := make([]int, len(f.Sorts))
	for i, s := range f.Sorts {
		if s.Kind == api.SortSpace {
			mosts[i] = min(r.left[i], 3*r.gaps, r.fill/s.Width)
		}
	}
	return mosts
}

// eachCount calls a function with all counts up to these, in lexicographic order.
func eachCount(most []int, do func(counts []int)) {
	counts := make([]int, len(most))
	var from func(i int)
	from = func(i int) {
		if i == len(most) {
			do(counts)
			return
		}
		for counts[i] = 0; counts[i] <= most[i]; counts[i]++ {
			from(i + 1)
		}
		counts[i] = 0
	}
	from(0)
}

// fewestOf is the lexicographically first counts up to these, of those with the fewest sorts, from
// so many to so many, that make a width.
func fewestOf(f api.Fount, mosts []int, least, most, width int) ([]int, bool) {
	var best []int
	found := false
	eachCount(mosts, func(counts []int) {
		w := 0
		for i, n := range counts {
			w += n * f.Sorts[i].Width
		}
		if n := sum(counts); w == width && n >= least && n <= most && (!found || n < sum(best)) {
			best, found = slices.Clone(counts), true
		}
	})
	return best, found
}

func sum(numbers []int) int {
	s := 0
	for _, n := range numbers {
		s += n
	}
	return s
}
