package page_test

import (
	"testing"

	"tympan/api"
	"tympan/page"
)

// P5.2: what pages use, their notes and their costs.
func TestPages(t *testing.T) {
	type rule = api.PageRules
	high := changed(rules(), func(r *rule) { r.Height = 100 })
	gaps := galleyOf(gap(9), gap(8), row(5), gap(3), row(6), gap(7), gap(1), row(2))
	ends := galleyOf(row(10), gap(2), heading(9), gap(4), gap(3))
	notes := noted(galleyOf(calling(row(10), 0), gap(2), calling(heading(5), 1), calling(text(3, 1, 1), 2), row(1)), 6, 7, 8)
	single := galleyOf(text(10, 1, 1), text(10, 1, 1), row(10))
	orphans := galleyOf(append(append([]api.PageItem{gap(1)}, lines(12, 3)...), gap(1), row(1))...)
	for _, c := range []struct {
		what string
		g    api.PageGalley
		r    api.PageRules
		at   [2]int
		used int
		cost int
		e    api.Errno
	}{
		{"example 1", example(), rules(), [2]int{0, 3}, 36, 16, api.OK},
		{"example 1 with a gap", example(), rules(), [2]int{0, 4}, 36, 16, api.OK},
		{"example 1, too long", example(), rules(), [2]int{0, 5}, 56, 0, api.ErrBreak},
		{"example 1, the end", example(), rules(), [2]int{3, 7}, 38, 0, api.OK},
		{"example 1, two lines", example(), rules(), [2]int{0, 2}, 24, 256, api.OK},
		{"example 2, an orphan", example(), rules(), [2]int{0, 1}, 12, 884, api.OK},
		{"example 2, a heading and an orphan", example(), rules(), [2]int{4, 6}, 26, 296, api.OK},
		{"example 2, behind a heading", example(), rules(), [2]int{5, 7}, 24, 0, api.OK},
		{"example 3, too long", withNote(), rules(), [2]int{0, 3}, 50, 0, api.ErrBreak},
		{"example 3, a note", withNote(), rules(), [2]int{0, 2}, 38, 4, api.OK},
		{"example 3, a widow too long", withNote(), rules(), [2]int{2, 6}, 44, 0, api.ErrBreak},
		{"example 3, a widow", withNote(), rules(), [2]int{2, 4}, 12, 884, api.OK},
		{"a heading at the bottom", example(), rules(), [2]int{3, 5}, 14, 0, api.ErrKind},
		{"a heading alone", example(), rules(), [2]int{4, 5}, 14, 0, api.ErrKind},
		{"a widow at the end", example(), rules(), [2]int{6, 7}, 12, 100, api.OK},
		{"a widow and an orphan", galleyOf(append(lines(9, 2), lines(9, 2)...)...), changed(rules(), func(r *rule) { r.Widow, r.Orphan = 1000, 20 }), [2]int{1, 3}, 18, 22*22 + 1020, api.OK},
		{"neither widow nor orphan within a paragraph", galleyOf(lines(12, 3)...), rules(), [2]int{1, 2}, 12, 784, api.OK},
		{"just full", example(), changed(rules(), func(r *rule) { r.Height = 36 }), [2]int{0, 3}, 36, 0, api.OK},
		{"one point too much", example(), changed(rules(), func(r *rule) { r.Height = 35 }), [2]int{0, 3}, 36, 0, api.ErrBreak},
		{"too much and a heading", example(), changed(rules(), func(r *rule) { r.Height = 13 }), [2]int{4, 5}, 14, 0, api.ErrBreak},
		{"all of it", example(), high, [2]int{0, 7}, 80, 0, api.OK},
		{"all but a line", example(), high, [2]int{0, 6}, 68, 32*32 + 100, api.OK},
		// Gaps.
		{"a gap alone", example(), rules(), [2]int{3, 4}, 0, 0, api.ErrForm},
		{"gaps alone", gaps, rules(), [2]int{5, 7}, 0, 0, api.ErrForm},
		{"a gap alone at the end", ends, rules(), [2]int{3, 5}, 0, 0, api.ErrForm},
		{"gaps at the top and at the bottom", gaps, rules(), [2]int{0, 4}, 5, 35 * 35, api.OK},
		{"gaps everywhere", gaps, rules(), [2]int{0, 7}, 14, 26 * 26, api.OK},
		{"gaps between", gaps, rules(), [2]int{1, 8}, 24, 0, api.OK},
		{"an orphan ahead of gaps", orphans, rules(), [2]int{0, 2}, 12, 884, api.OK},
		{"a widow behind gaps", galleyOf(append(lines(12, 2), gap(1), row(1))...), rules(), [2]int{1, 3}, 12, 884, api.OK},
		{"a heading ahead of gaps", ends, rules(), [2]int{0, 4}, 21, 0, api.ErrKind},
		{"a heading ahead of gaps at the end", ends, rules(), [2]int{0, 5}, 21, 0, api.OK},
		{"a heading at the end", galleyOf(row(1), heading(1)), rules(), [2]int{0, 2}, 2, 0, api.OK},
		// Notes.
		{"a note of a row", notes, rules(), [2]int{0, 1}, 10 + 4 + 6, 400, api.OK},
		{"two notes", notes, high, [2]int{0, 3}, 10 + 2 + 5 + 4 + 6 + 7, 0, api.ErrKind},
		{"three notes", notes, high, [2]int{0, 4}, 20 + 4 + 21, 55 * 55, api.OK},
		{"a note of a heading and one of a line", notes, high, [2]int{1, 4}, 8 + 4 + 15, 73 * 73, api.OK},
		{"no note", notes, high, [2]int{4, 5}, 1, 0, api.OK},
		{"no points above the notes", notes, changed(high, func(r *rule) { r.NoteGap = 0 }), [2]int{0, 4}, 41, 59 * 59, api.OK},
		// Paragraphs of one line.
		{"a paragraph of one line", single, rules(), [2]int{0, 1}, 10, 900, api.OK},
		{"paragraphs of one line", single, rules(), [2]int{0, 2}, 20, 400, api.OK},
		{"the greatest cost", galleyOf(append(append(lines(1, 2), lines(1, 2)...), row(1))...), rule{Height: 2000, Widow: 1000000, Orphan: 1000000}, [2]int{1, 3}, 2, 1998*1998 + 2000000, api.OK},
	} {
		used, e := page.UsedBy(c.g, c.r, c.at)
		wantNumber(t, "UsedBy, "+c.what, used, e, c.used, api.OK)
		cost, e := page.CostOf(c.g, c.r, c.at)
		wantNumber(t, "CostOf, "+c.what, cost, e, c.cost, c.e)
	}
}

// P5.2: the notes of a page are those of all its items, also if the page is too long.
func TestNotesOn(t *testing.T) {
	notes := noted(galleyOf(calling(row(10), 0), gap(2), calling(heading(5), 1), calling(text(3, 1, 1), 2), row(1)), 6, 7, 2000)
	for _, c := range []struct {
		at   [2]int
		want []int
	}{
		{[2]int{0, 1}, []int{0}}, {[2]int{0, 2}, []int{0}}, {[2]int{0, 3}, []int{0, 1}}, {[2]int{0, 5}, []int{0, 1, 2}},
		{[2]int{1, 2}, nil}, {[2]int{1, 3}, []int{1}}, {[2]int{2, 4}, []int{1, 2}}, {[2]int{3, 5}, []int{2}}, {[2]int{4, 5}, nil},
	} {
		got, e := page.NotesOn(notes, c.at)
		wantList(t, "NotesOn", got, e, c.want, api.OK)
	}
	got, e := page.NotesOn(withNote(), [2]int{0, 7})
	wantList(t, "NotesOn, example 3", got, e, []int{0}, api.OK)
}

// pageCalls is the functions that take a page.
func pageCalls() []call {
	type a = arguments
	return []call{
		{"UsedBy", func(x a) ([]any, api.Errno) { r, e := page.UsedBy(x.g, x.r, x.at); return results(e, r) }},
		{"NotesOn", func(x a) ([]any, api.Errno) { r, e := page.NotesOn(x.g, x.at); return results(e, r) }},
		{"CostOf", func(x a) ([]any, api.Errno) { r, e := page.CostOf(x.g, x.r, x.at); return results(e, r) }},
	}
}

// P5.2: pages that are none.
func TestNoPages(t *testing.T) {
	for _, c := range pageCalls() {
		x := rightArguments()
		for _, at := range [][2]int{
			{-1, 3}, {7, 7}, {7, 8}, {8, 9}, {0, 0}, {3, 3}, {3, 2}, {0, 8}, {6, 8}, {-3, -1}, {0, -1},
			{great, great}, {-great - 1, -great - 1}, {great, 0}, {0, great}, {-great - 1, 1},
		} {
			x.at = at
			wantError(t, c, x, "no page", api.ErrRange)
		}
		x.g = api.PageGalley{}
		for _, at := range [][2]int{{0, 0}, {0, 1}, {-1, 0}} {
			x.at = at
			wantError(t, c, x, "no items", api.ErrRange)
		}
	}
}

// P5.2, P5.9: all pages of made galleys are those of the definitions.
func TestMadePages(t *testing.T) {
	m := newMaker(2)
	found := map[api.Errno]int{}
	for range 2000 {
		b := m.book()
		for to := range b.end() + 1 {
			for from := range to {
				at := [2]int{from, to}
				used, e := page.UsedBy(b.g, b.r, at)
				wantNumber(t, "UsedBy of a made page", used, e, b.used(from, to), api.OK)
				notes, e := page.NotesOn(b.g, at)
				wantList(t, "NotesOn of a made page", notes, e, b.notes(from, to), api.OK)
				cost, e := page.CostOf(b.g, b.r, at)
				want, wantError := b.cost(from, to)
				wantNumber(t, "CostOf of a made page", cost, e, want, wantError)
				found[e]++
			}
		}
	}
	for _, e := range []api.Errno{api.OK, api.ErrForm, api.ErrBreak, api.ErrKind} {
		if found[e] < 500 {
			t.Errorf("only %d pages with the error %d", found[e], e)
		}
	}
}
