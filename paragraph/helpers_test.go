package paragraph_test

import (
	"math/rand"
	"reflect"
	"slices"
	"testing"

	"tympan/api"
)

// most is the label of a place that is not reached.
const most = api.MostLabel

// roman is the fount of the chapter's examples.
func roman() api.Fount {
	return api.Fount{Name: "rom", Body: 10, Sorts: []api.TypeSort{
		{Name: "a", Text: "a", Kind: api.SortLetter, Width: 300},
		{Name: "b", Text: "b", Kind: api.SortLetter, Width: 330},
		{Name: "fi", Text: "fi", Kind: api.SortLigature, Width: 360},
		{Name: "thick", Kind: api.SortSpace, Width: 200},
		{Name: "thin", Kind: api.SortSpace, Width: 120},
		{Name: "hy", Text: "-", Kind: api.SortLetter, Width: 100},
	}}
}

// small is a fount of letters a, b, .. and a hyphen "-", then of spaces, of these widths.
func small(letters []int, hyphen int, spaces ...int) api.Fount {
	f := api.Fount{Name: "small", Body: 12}
	add := func(s api.TypeSort) {
		s.Name = "s" + string(rune('a'+len(f.Sorts)))
		f.Sorts = append(f.Sorts, s)
	}
	for i, width := range letters {
		add(api.TypeSort{Text: string(rune('a' + i)), Kind: api.SortLetter, Width: width})
	}
	add(api.TypeSort{Text: "-", Kind: api.SortLetter, Width: hyphen})
	for _, width := range spaces {
		add(api.TypeSort{Kind: api.SortSpace, Width: width})
	}
	return f
}

// rules is the rules of the chapter's examples.
func rules() api.ParagraphRules {
	return api.ParagraphRules{Measure: 1400, Least: 120, Most: 400, Gap: 3, Hyphen: 5, Single: 50, Double: 100}
}

// changed is rules with something about them changed.
func changed(r api.ParagraphRules, how func(r *api.ParagraphRules)) api.ParagraphRules {
	how(&r)
	return r
}

func word(sorts ...int) api.ParagraphWord {
	return api.ParagraphWord{Sorts: sorts}
}

// divided is a word that may be divided.
func divided(w api.ParagraphWord, breaks ...int) api.ParagraphWord {
	w.Breaks = breaks
	return w
}

// same is so many sorts of one number.
func same(sort, n int) []int {
	return slices.Repeat([]int{sort}, n)
}

// everywhere is a word that may be divided behind each of its sorts.
func everywhere(sorts ...int) api.ParagraphWord {
	w := word(sorts...)
	for part := range sorts[1:] {
		w.Breaks = append(w.Breaks, part+1)
	}
	return w
}

func repeated(w api.ParagraphWord, n int) []api.ParagraphWord {
	return slices.Repeat([]api.ParagraphWord{w}, n)
}

// five is the words of example 1, four those of example 2.
func five() []api.ParagraphWord {
	return repeated(word(0), 5)
}

func four() []api.ParagraphWord {
	return []api.ParagraphWord{word(0), word(0), divided(word(0, 0), 1), word(0)}
}

func lineOf(measure int, sorts ...int) api.TypeLine {
	return api.TypeLine{Measure: measure, Sorts: sorts}
}

// badFounts has a fount for several errors, with that error.
func badFounts() map[api.Errno]api.Fount {
	change := func(how func(f *api.Fount)) api.Fount {
		f := roman()
		how(&f)
		return f
	}
	return map[api.Errno]api.Fount{
		api.ErrName:   change(func(f *api.Fount) { f.Name = "" }),
		api.ErrRange:  change(func(f *api.Fount) { f.Body = 0 }),
		api.ErrShape:  change(func(f *api.Fount) { f.Sorts = nil }),
		api.ErrExists: change(func(f *api.Fount) { f.Sorts[4].Name = "a" }),
		api.ErrKind:   change(func(f *api.Fount) { f.Sorts[4].Kind = 9 }),
		api.ErrForm:   change(func(f *api.Fount) { f.Sorts[4].Text = "x" }),
		api.ErrClash:  change(func(f *api.Fount) { f.Sorts[1].Text = "a" }),
	}
}

// isZero tells whether all results are zero values; an empty slice is one.
func isZero(results []any) bool {
	for _, r := range results {
		v := reflect.ValueOf(r)
		if v.Kind() == reflect.Slice {
			if v.Len() != 0 {
				return false
			}
		} else if !v.IsZero() {
			return false
		}
	}
	return true
}

func results(e api.Errno, r ...any) ([]any, api.Errno) {
	return r, e
}

// wantList fails the test if a list with an error is not the one that is wanted.
func wantList[T comparable](t *testing.T, what string, got []T, e api.Errno, want []T, wantError api.Errno) {
	t.Helper()
	if e != wantError || !slices.Equal(got, want) {
		t.Errorf("%s: %v, error %d, want %v, error %d", what, got, e, want, wantError)
	}
}

// wantLists does the same of lists of numbers.
func wantLists(t *testing.T, what string, got [][]int, e api.Errno, want [][]int, wantError api.Errno) {
	t.Helper()
	if e != wantError || !slices.EqualFunc(got, want, slices.Equal[[]int]) {
		t.Errorf("%s: %v, error %d, want %v, error %d", what, got, e, want, wantError)
	}
}

// wantNumber does the same of a number.
func wantNumber(t *testing.T, what string, got int, e api.Errno, want int, wantError api.Errno) {
	t.Helper()
	if e != wantError || got != want {
		t.Errorf("%s: %d, error %d, want %d, error %d", what, got, e, want, wantError)
	}
}

// sameLines tells whether lines are the same, one by one.
func sameLines(a, b []api.TypeLine) bool {
	return slices.EqualFunc(a, b, func(x, y api.TypeLine) bool {
		return x.Measure == y.Measure && slices.Equal(x.Sorts, y.Sorts)
	})
}

func sum(numbers []int) int {
	s := 0
	for _, n := range numbers {
		s += n
	}
	return s
}

func widthOf(f api.Fount, sorts []int) int {
	width := 0
	for _, sort := range sorts {
		width += f.Sorts[sort].Width
	}
	return width
}

// text is a paragraph with its fount and its rules, and what the chapter defines of it, as directly
// as it says it.
type text struct {
	f     api.Fount
	r     api.ParagraphRules
	words []api.ParagraphWord
}

func (x text) places() []api.ParagraphPlace {
	var places []api.ParagraphPlace
	for i, w := range x.words {
		for part := range len(w.Sorts) {
			if part == 0 || slices.Contains(w.Breaks, part) {
				places = append(places, api.ParagraphPlace{Word: i, Part: part})
			}
		}
	}
	return append(places, api.ParagraphPlace{Word: len(x.words)})
}

// pieces goes through all sorts of all words, and takes those between the places.
func (x text) pieces(from, to int) [][]int {
	begin, end := x.places()[from], x.places()[to]
	var pieces [][]int
	for i, w := range x.words {
		var piece []int
		for j, sort := range w.Sorts {
			isBehind := i > begin.Word || i == begin.Word && j >= begin.Part
			isAhead := i < end.Word || i == end.Word && j < end.Part
			if isBehind && isAhead {
				piece = append(piece, sort)
			}
		}
		if len(piece) > 0 {
			pieces = append(pieces, piece)
		}
	}
	if end.Part > 0 {
		pieces[len(pieces)-1] = append(pieces[len(pieces)-1], x.r.Hyphen)
	}
	return pieces
}

func (x text) room(from, to int) int {
	room := x.r.Measure - widthOf(x.f, slices.Concat(x.pieces(from, to)...))
	if from == 0 {
		room -= x.r.Indent
	}
	return room
}

func (x text) isLast(place int) bool {
	return place == len(x.places())-1
}

func (x text) allowed(from, to int) bool {
	pieces, room := x.pieces(from, to), x.room(from, to)
	gaps := len(pieces) - 1
	for _, piece := range pieces {
		if len(piece) > 60 {
			return false
		}
	}
	if len(pieces) > 30 || len(slices.Concat(pieces...)) > 188 || room > 20000 {
		return false
	}
	switch {
	case x.isLast(to):
		return room >= gaps*x.r.Least
	case gaps > 0:
		return room >= gaps*x.r.Least && room <= gaps*x.r.Most
	}
	return room == 0
}

func (x text) demerits(from, to int) int {
	places, room := x.places(), x.room(from, to)
	gaps := len(x.pieces(from, to)) - 1
	wanted := gaps * x.f.Sorts[x.r.Gap].Width
	d := 0
	if !(x.isLast(to) && room >= wanted || gaps == 0) {
		size := room - wanted
		if size < 0 {
			size = -size
		}
		d = (size / gaps) * (size / gaps)
	}
	if places[to].Part > 0 {
		d += x.r.Single
	}
	if places[from].Part > 0 && places[to].Part > 0 {
		d += x.r.Double
	}
	return d
}

// breaksDemerits is the demerits of breaks, and whether they are right.
func (x text) breaksDemerits(breaks []int) (int, bool) {
	from, d := 0, 0
	for _, to := range breaks {
		if to <= from || to >= len(x.places()) || !x.allowed(from, to) {
			return 0, false
		}
		d += x.demerits(from, to)
		from = to
	}
	return d, x.isLast(from)
}

// each calls a function with all ascending breaks that end with the last place, right or not.
func (x text) each(do func(breaks []int)) {
	last := len(x.places()) - 1
	if last == 0 {
		do(nil)
		return
	}
	for set := range 1 << (last - 1) {
		var breaks []int
		for place := 1; place < last; place++ {
			if set>>(place-1)&1 == 1 {
				breaks = append(breaks, place)
			}
		}
		do(append(breaks, last))
	}
}

// least is the least demerits of right breaks with each number of lines (most if there are none).
func (x text) least() []int {
	least := same(most, len(x.places()))
	x.each(func(breaks []int) {
		if d, right := x.breaksDemerits(breaks); right && d < least[len(breaks)] {
			least[len(breaks)] = d
		}
	})
	return least
}

func (x text) rightLabels(labels []int) bool {
	for to := range labels {
		for from := range to {
			if x.allowed(from, to) && labels[to] > labels[from]+x.demerits(from, to) {
				return false
			}
		}
	}
	return labels[0] == 0
}

// maker makes paragraphs, the same ones in every run.
type maker struct{ *rand.Rand }

func newMaker(seed int64) maker {
	return maker{rand.New(rand.NewSource(seed))}
}

// text makes a small paragraph without errors: up to 10 places, lines of a few words.
func (m maker) text() text {
	x := text{f: small([]int{2 + m.Intn(3), 1 + m.Intn(5)}, 1+m.Intn(2), 1+m.Intn(3), 1+m.Intn(4))}
	x.r = api.ParagraphRules{Measure: 3 + m.Intn(18), Gap: 3 + m.Intn(2), Hyphen: 2, Single: m.Intn(4), Double: m.Intn(4)}
	if m.Intn(3) == 0 {
		x.r.Indent = 1 + m.Intn(3)
	}
	wanted := x.f.Sorts[x.r.Gap].Width
	x.r.Least, x.r.Most = 1+m.Intn(wanted), wanted+m.Intn(6)
	places := 1 + m.Intn(9)
	if m.Intn(20) == 0 {
		places = 0
	}
	for n := 0; n < places; {
		var w api.ParagraphWord
		for i := range 1 + m.Intn(4) {
			w.Sorts = append(w.Sorts, m.Intn(2))
			if i > 0 && n+1 < places && m.Intn(2) == 0 {
				w.Breaks = append(w.Breaks, i)
				n++
			}
		}
		x.words = append(x.words, w)
		n++
	}
	return x
}
