package page_test

import (
	"math/rand"
	"reflect"
	"slices"
	"strconv"
	"testing"

	"tympan/api"
)

// great is a number that no limit allows.
const great = 1<<63 - 1

// roman is the fount of chapter 1: a (0), b (1), fi (2), thick (3), thin (4).
func roman() api.Fount {
	return api.Fount{Name: "rom", Body: 10, Sorts: []api.TypeSort{
		{Name: "a", Text: "a", Kind: api.SortLetter, Width: 300},
		{Name: "b", Text: "b", Kind: api.SortLetter, Width: 330},
		{Name: "fi", Text: "fi", Kind: api.SortLigature, Width: 360},
		{Name: "thick", Kind: api.SortSpace, Width: 200},
		{Name: "thin", Kind: api.SortSpace, Width: 120},
	}}
}

// small is a fount of letters a, b, .., then of spaces, of these widths.
func small(letters []int, spaces ...int) api.Fount {
	f := api.Fount{Name: "small", Body: 12}
	for i, width := range letters {
		text := string(rune('a' + i))
		f.Sorts = append(f.Sorts, api.TypeSort{Name: text, Text: text, Kind: api.SortLetter, Width: width})
	}
	for i, width := range spaces {
		f.Sorts = append(f.Sorts, api.TypeSort{Name: "s" + strconv.Itoa(i), Kind: api.SortSpace, Width: width})
	}
	return f
}

// badFounts has a fount for several errors, with that error.
func badFounts() map[api.Errno]api.Fount {
	change := func(how func(f *api.Fount)) api.Fount {
		f := roman()
		how(&f)
		return f
	}
	return map[api.Errno]api.Fount{
		api.ErrName:   change(func(f *api.Fount) { f.Name = "" }),
		api.ErrRange:  change(func(f *api.Fount) { f.Body = 0 }),
		api.ErrShape:  change(func(f *api.Fount) { f.Sorts = nil }),
		api.ErrExists: change(func(f *api.Fount) { f.Sorts[4].Name = "a" }),
		api.ErrKind:   change(func(f *api.Fount) { f.Sorts[4].Kind = 9 }),
		api.ErrForm:   change(func(f *api.Fount) { f.Sorts[4].Text = "x" }),
		api.ErrClash:  change(func(f *api.Fount) { f.Sorts[1].Text = "a" }),
	}
}

// text is a line of a paragraph, heading, row and gap are the other items; none of them calls a note.
func text(height, line, of int) api.PageItem {
	return api.PageItem{Kind: api.PageText, Height: height, Note: -1, Line: line, Of: of}
}

func heading(height int) api.PageItem {
	return api.PageItem{Kind: api.PageHeading, Height: height, Note: -1}
}

func row(height int) api.PageItem {
	return api.PageItem{Kind: api.PageRow, Height: height, Note: -1}
}

func gap(height int) api.PageItem {
	return api.PageItem{Kind: api.PageGap, Height: height, Note: -1}
}

// calling is an item that calls a note.
func calling(item api.PageItem, note int) api.PageItem {
	item.Note = note
	return item
}

// lines is the lines of a paragraph.
func lines(height, of int) []api.PageItem {
	var items []api.PageItem
	for i := range of {
		items = append(items, text(height, i+1, of))
	}
	return items
}

func galleyOf(items ...api.PageItem) api.PageGalley {
	return api.PageGalley{Items: items}
}

// noted is a galley with notes of these heights.
func noted(g api.PageGalley, notes ...int) api.PageGalley {
	g.Notes = notes
	return g
}

// example is the galley of example 1, withNote that of example 3.
func example() api.PageGalley {
	return galleyOf(append(append(lines(12, 3), gap(6), heading(14)), lines(12, 2)...)...)
}

func withNote() api.PageGalley {
	g := noted(example(), 10)
	g.Items[1].Note = 0
	return g
}

// rules is the rules of the examples.
func rules() api.PageRules {
	return api.PageRules{Height: 40, NoteGap: 4, Widow: 100, Orphan: 100}
}

// changed is rules with something about them changed.
func changed(r api.PageRules, how func(r *api.PageRules)) api.PageRules {
	how(&r)
	return r
}

// same is so many numbers that are equal.
func same(number, n int) []int {
	return slices.Repeat([]int{number}, n)
}

func lineOf(measure int, sorts ...int) api.TypeLine {
	return api.TypeLine{Measure: measure, Sorts: sorts}
}

// isZero tells whether all results are zero values; an empty slice is one, in a line or a galley also.
func isZero(results []any) bool {
	for _, r := range results {
		if !isZeroValue(reflect.ValueOf(r)) {
			return false
		}
	}
	return true
}

func isZeroValue(v reflect.Value) bool {
	switch v.Kind() {
	case reflect.Slice:
		return v.Len() == 0
	case reflect.Struct:
		for i := range v.NumField() {
			if !isZeroValue(v.Field(i)) {
				return false
			}
		}
		return true
	}
	return v.IsZero()
}

func results(e api.Errno, r ...any) ([]any, api.Errno) {
	return r, e
}

// wantList fails the test if a list with an error is not the one that is wanted.
func wantList[T comparable](t *testing.T, what string, got []T, e api.Errno, want []T, wantError api.Errno) {
	t.Helper()
	if e != wantError || !slices.Equal(got, want) {
		t.Errorf("%s: %v, error %d, want %v, error %d", what, got, e, want, wantError)
	}
}

// wantNumber does the same of a number.
func wantNumber(t *testing.T, what string, got int, e api.Errno, want int, wantError api.Errno) {
	t.Helper()
	if e != wantError || got != want {
		t.Errorf("%s: %d, error %d, want %d, error %d", what, got, e, want, wantError)
	}
}

// wantLine does the same of a line; with an error it is the zero value.
func wantLine(t *testing.T, what string, got api.TypeLine, e api.Errno, want api.TypeLine, wantError api.Errno) {
	t.Helper()
	if e != wantError || got.Measure != want.Measure || !slices.Equal(got.Sorts, want.Sorts) {
		t.Errorf("%s: %v, error %d, want %v, error %d", what, got, e, want, wantError)
	}
}

func sum(numbers []int) int {
	s := 0
	for _, n := range numbers {
		s += n
	}
	return s
}

func widthOf(f api.Fount, sorts []int) int {
	width := 0
	for _, sort := range sorts {
		width += f.Sorts[sort].Width
	}
	return width
}

func isSpace(f api.Fount, sort int) bool {
	return f.Sorts[sort].Kind == api.SortSpace
}

// needOf counts the sorts of lists.
func needOf(f api.Fount, lists ...[]int) []int {
	need := same(0, len(f.Sorts))
	for _, sorts := range lists {
		for _, sort := range sorts {
			need[sort]++
		}
	}
	return need
}

// less is a case without so many times a need.
func less(counts, need []int, times int) []int {
	left := slices.Clone(counts)
	for i := range left {
		left[i] -= times * need[i]
	}
	return left
}

// book is a galley with rules, and what the chapter defines of it, as directly as it says it.
type book struct {
	g api.PageGalley
	r api.PageRules
}

func (b book) end() int {
	return len(b.g.Items)
}

// core is the numbers of the items of the core of a page.
func (b book) core(from, to int) []int {
	var core []int
	for i := from; i < to; i++ {
		isBegun, goesOn := false, false
		for j := from; j < to; j++ {
			if b.g.Items[j].Kind != api.PageGap {
				isBegun = isBegun || j <= i
				goesOn = goesOn || j >= i
			}
		}
		if isBegun && goesOn {
			core = append(core, i)
		}
	}
	return core
}

func (b book) notes(from, to int) []int {
	var notes []int
	for note := range b.g.Notes {
		for _, item := range b.g.Items[from:to] {
			if item.Note == note {
				notes = append(notes, note)
			}
		}
	}
	return notes
}

func (b book) used(from, to int) int {
	used := 0
	for _, i := range b.core(from, to) {
		used += b.g.Items[i].Height
	}
	for n, note := range b.notes(from, to) {
		if n == 0 {
			used += b.r.NoteGap
		}
		used += b.g.Notes[note]
	}
	return used
}

// cost is the cost of a page, or the error with which it is not possible.
func (b book) cost(from, to int) (int, api.Errno) {
	core := b.core(from, to)
	if len(core) == 0 {
		return 0, api.ErrForm
	}
	if b.used(from, to) > b.r.Height {
		return 0, api.ErrBreak
	}
	first, last := b.g.Items[core[0]], b.g.Items[core[len(core)-1]]
	if last.Kind == api.PageHeading && to != b.end() {
		return 0, api.ErrKind
	}
	empty := b.r.Height - b.used(from, to)
	cost := empty * empty
	if to == b.end() {
		cost = 0
	}
	if last.Kind == api.PageText && last.Line == 1 && last.Of != 1 {
		cost += b.r.Orphan
	}
	if first.Kind == api.PageText && first.Line == first.Of && first.Of != 1 {
		cost += b.r.Widow
	}
	return cost, api.OK
}

// costOf is the cost of breaks, or the error of their first page that is not possible.
func (b book) costOf(breaks []int) (int, api.Errno) {
	from, all := 0, 0
	for _, to := range breaks {
		cost, e := b.cost(from, to)
		if e != api.OK {
			return 0, e
		}
		all += cost
		from = to
	}
	return all, api.OK
}

// each calls a function with all ascending breaks that end with the galley, possible or not.
func (b book) each(do func(breaks []int)) {
	for set := range 1 << (b.end() - 1) {
		var breaks []int
		for place := 1; place < b.end(); place++ {
			if set>>(place-1)&1 == 1 {
				breaks = append(breaks, place)
			}
		}
		do(append(breaks, b.end()))
	}
}

func (b book) rightLabels(labels []int) bool {
	for to := range labels {
		for from := range to {
			if cost, e := b.cost(from, to); e == api.OK && labels[to] > labels[from]+cost {
				return false
			}
		}
	}
	return labels[0] == 0
}

// maker makes books, the same ones in every run.
type maker struct{ *rand.Rand }

func newMaker(seed int64) maker {
	return maker{rand.New(rand.NewSource(seed))}
}

// book makes a small galley without errors, of up to 10 items, and rules for it: pages of a few items.
func (m maker) book() book {
	b := book{r: api.PageRules{Height: 3 + m.Intn(9), NoteGap: m.Intn(3), Widow: m.Intn(30), Orphan: m.Intn(30)}}
	for want := 1 + m.Intn(9); b.end() < want; {
		height := 1 + m.Intn(3)
		switch m.Intn(6) {
		case 0:
			b.g.Items = append(b.g.Items, heading(height))
		case 1:
			b.g.Items = append(b.g.Items, row(height))
		case 2:
			b.g.Items = append(b.g.Items, gap(height))
		default:
			b.g.Items = append(b.g.Items, lines(height, 1+m.Intn(min(4, want-b.end())))...)
		}
	}
	for i, item := range b.g.Items {
		if item.Kind != api.PageGap && m.Intn(5) == 0 {
			b.g.Items[i].Note = len(b.g.Notes)
			b.g.Notes = append(b.g.Notes, 1+m.Intn(3))
		}
	}
	return b
}

// plain makes a book without headings and notes.
func (m maker) plain() book {
	b := m.book()
	b.g.Notes = nil
	for i, item := range b.g.Items {
		if b.g.Items[i].Note = -1; item.Kind == api.PageHeading {
			b.g.Items[i].Kind = api.PageRow
		}
	}
	return b
}
