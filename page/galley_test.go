package page_test

import (
	"slices"
	"testing"

	"tympan/api"
	"tympan/page"
)

// wrongGalleys has galleys with errors, and the number that is told with each of them; most of them
// have errors that are listed later, too.
func wrongGalleys() []struct {
	what   string
	g      api.PageGalley
	number int
	e      api.Errno
} {
	type item = api.PageItem
	change := func(x item, how func(x *item)) item {
		how(&x)
		return x
	}
	wrong := item{}
	two := noted(galleyOf(row(1), calling(row(1), 0), calling(row(1), 1)), 5, 5)
	withItem := func(at int, x item) api.PageGalley {
		g := noted(galleyOf(slices.Clone(two.Items)...), two.Notes...)
		g.Items[at] = x
		return g
	}
	return []struct {
		what   string
		g      api.PageGalley
		number int
		e      api.Errno
	}{
		{"201 items", noted(galleyOf(slices.Repeat([]item{wrong}, 201)...), 0), 0, api.ErrLarge},
		{"41 notes", noted(galleyOf(wrong), same(0, 41)...), 0, api.ErrLarge},
		{"41 notes and no items", noted(galleyOf(), same(1, 41)...), 0, api.ErrLarge},
		{"a note of 0", noted(galleyOf(row(1), wrong), 5, 0), 0, api.ErrRange},
		{"a note of -1", noted(galleyOf(wrong), -1), 0, api.ErrRange},
		{"a note of 2001", noted(galleyOf(wrong), 5, 2001), 0, api.ErrRange},
		{"a great note", noted(galleyOf(wrong), great), 0, api.ErrRange},
		{"the kind 0", galleyOf(row(1), item{Note: 7, Line: 3}, wrong), 1, api.ErrKind},
		{"the kind 5", galleyOf(row(1), row(1), item{Kind: 5, Note: 7}), 2, api.ErrKind},
		{"the kind -1", galleyOf(item{Kind: -1, Note: 7}), 0, api.ErrKind},
		{"a great kind", galleyOf(item{Kind: great, Note: 7}), 0, api.ErrKind},
		{"the height 0", galleyOf(row(1), item{Kind: api.PageGap, Line: 1}, wrong), 1, api.ErrRange},
		{"the height -1", galleyOf(text(-1, 5, -1)), 0, api.ErrRange},
		{"the height 2001", galleyOf(row(1), calling(row(2001), 3)), 1, api.ErrRange},
		{"a great height", galleyOf(row(1), calling(heading(great), 3)), 1, api.ErrRange},
		{"a gap with the note 0", noted(galleyOf(text(1, 1, 2), calling(gap(1), 0)), 5), 1, api.ErrForm},
		{"a gap with the note -2", galleyOf(text(1, 1, 2), calling(gap(1), -2)), 1, api.ErrForm},
		{"a gap with a line", galleyOf(change(gap(1), func(x *item) { x.Line = 1 })), 0, api.ErrForm},
		{"a gap of lines", galleyOf(text(1, 1, 2), change(gap(1), func(x *item) { x.Of = 1 })), 1, api.ErrForm},
		{"a heading with a line", galleyOf(text(1, 1, 2), change(calling(heading(1), 9), func(x *item) { x.Line = 2 })), 1, api.ErrForm},
		{"a heading of lines", galleyOf(change(calling(heading(1), 9), func(x *item) { x.Of = -1 })), 0, api.ErrForm},
		{"a row with a line", galleyOf(row(1), change(calling(row(1), 9), func(x *item) { x.Line = -1 })), 1, api.ErrForm},
		{"a row of lines", galleyOf(text(1, 1, 2), change(calling(row(1), 9), func(x *item) { x.Of = 2 })), 1, api.ErrForm},
		{"a paragraph of 0 lines", galleyOf(row(1), calling(text(1, 1, 0), 9), wrong), 1, api.ErrOrder},
		{"a paragraph of -1 lines", galleyOf(text(1, 1, -1)), 0, api.ErrOrder},
		{"a first line 0", galleyOf(calling(text(1, 0, 2), 9)), 0, api.ErrOrder},
		{"a first line -1", galleyOf(text(1, -1, 2)), 0, api.ErrOrder},
		{"a first line 2", galleyOf(text(1, 2, 2)), 0, api.ErrOrder},
		{"a second line 1", galleyOf(text(1, 1, 2), text(1, 1, 2)), 1, api.ErrOrder},
		{"a second line 3", galleyOf(text(1, 1, 3), text(1, 3, 3)), 1, api.ErrOrder},
		{"a third line 1", galleyOf(text(1, 1, 2), text(1, 2, 2), text(1, 3, 3)), 2, api.ErrOrder},
		{"a line 3 of 2", galleyOf(text(1, 1, 2), text(1, 2, 2), text(1, 3, 2)), 2, api.ErrOrder},
		{"a line of another paragraph", galleyOf(text(1, 1, 2), text(1, 2, 3), text(1, 3, 3)), 1, api.ErrOrder},
		{"a line of a shorter paragraph", galleyOf(text(1, 1, 3), text(1, 2, 2)), 1, api.ErrOrder},
		{"a first line behind a heading", galleyOf(row(1), heading(1), text(1, 2, 3)), 2, api.ErrOrder},
		{"a great line", galleyOf(text(1, great, great)), 0, api.ErrOrder},
		{"a heading within a paragraph", galleyOf(text(1, 1, 2), calling(heading(1), 9), text(1, 2, 2)), 1, api.ErrOrder},
		{"a row within a paragraph", galleyOf(text(1, 1, 3), text(1, 2, 3), row(1)), 2, api.ErrOrder},
		{"a gap within a paragraph", galleyOf(text(1, 1, 2), gap(1), text(1, 2, 2)), 1, api.ErrOrder},
		{"no note 0", galleyOf(row(1), calling(row(1), 0), wrong), 1, api.ErrMissing},
		{"no note 2", withItem(2, calling(row(1), 2)), 2, api.ErrMissing},
		{"no note -2", withItem(0, calling(row(1), -2)), 0, api.ErrMissing},
		{"a great note that is called", withItem(0, calling(text(1, 1, 1), great)), 0, api.ErrMissing},
		{"a note twice", withItem(2, calling(heading(1), 0)), 2, api.ErrDouble},
		{"a note too early", withItem(1, calling(text(1, 1, 1), 1)), 1, api.ErrDouble},
		{"a note too late", withItem(0, calling(row(1), 1)), 0, api.ErrDouble},
		{"a note twice ahead of a wrong item", noted(galleyOf(calling(row(1), 0), calling(row(1), 0), wrong), 5), 1, api.ErrDouble},
		{"a paragraph that goes on", noted(galleyOf(row(1), text(1, 1, 2)), 5), 0, api.ErrOpen},
		{"a great paragraph", galleyOf(text(1, 1, great)), 0, api.ErrOpen},
		{"a note that is not called", noted(galleyOf(row(1), calling(row(1), 0)), 5, 5), 0, api.ErrGap},
		{"notes without items", noted(galleyOf(), 5), 0, api.ErrGap},
	}
}

// P5.1: what is a galley.
func TestCheckGalley(t *testing.T) {
	type items = []api.PageItem
	many := noted(galleyOf(slices.Repeat(items{row(1)}, 200)...), same(2000, 40)...)
	for note := range many.Notes {
		many.Items[5*note].Note = note
	}
	for what, g := range map[string]api.PageGalley{
		"example 1":                    example(),
		"example 3":                    withNote(),
		"nothing":                      {},
		"one gap":                      galleyOf(gap(1)),
		"gaps alone":                   galleyOf(gap(2000), gap(1)),
		"a heading at the end":         galleyOf(row(1), heading(2000)),
		"paragraphs of one line":       galleyOf(text(1, 1, 1), text(1, 1, 1), gap(1), text(1, 1, 1)),
		"paragraphs side by side":      galleyOf(append(lines(1, 3), lines(2, 2)...)...),
		"200 items and 40 notes":       many,
		"a paragraph of 200":           galleyOf(lines(2000, 200)...),
		"notes of text, heading, row":  noted(galleyOf(calling(text(1, 1, 1), 0), calling(heading(1), 1), calling(row(1), 2)), 1, 2, 3),
		"a note within a paragraph":    noted(galleyOf(text(1, 1, 3), calling(text(1, 2, 3), 0), text(1, 3, 3)), 2000),
		"lines of several heights":     galleyOf(text(1, 1, 2), text(9, 2, 2)),
		"items all of which call none": noted(galleyOf(row(1), gap(1))),
	} {
		n, e := page.CheckGalley(g)
		wantNumber(t, "CheckGalley, "+what, n, e, 0, api.OK)
	}
	for _, c := range wrongGalleys() {
		n, e := page.CheckGalley(c.g)
		wantNumber(t, "CheckGalley, "+c.what, n, e, c.number, c.e)
	}
}

// errorOf is what CheckGalley returns of a galley with few items, as the chapter says it.
func errorOf(g api.PageGalley) (int, api.Errno) {
	last := -1
	for i, x := range g.Items {
		expected, of := 1, x.Of
		if i > 0 && g.Items[i-1].Kind == api.PageText && g.Items[i-1].Line != g.Items[i-1].Of {
			expected, of = g.Items[i-1].Line+1, g.Items[i-1].Of
		}
		isText := x.Kind == api.PageText
		switch {
		case x.Kind < 1 || x.Kind > 4:
			return i, api.ErrKind
		case x.Height < 1 || x.Height > 2000:
			return i, api.ErrRange
		case x.Kind == api.PageGap && x.Note != -1, !isText && x.Line != 0, !isText && x.Of != 0:
			return i, api.ErrForm
		case isText && (x.Of < 1 || x.Line != expected || x.Of != of), !isText && expected != 1:
			return i, api.ErrOrder
		case x.Note < -1 || x.Note >= len(g.Notes):
			return i, api.ErrMissing
		case x.Note != -1 && x.Note != last+1:
			return i, api.ErrDouble
		}
		last = max(last, x.Note)
	}
	if n := len(g.Items); n > 0 && g.Items[n-1].Kind == api.PageText && g.Items[n-1].Line != g.Items[n-1].Of {
		return 0, api.ErrOpen
	}
	if last != len(g.Notes)-1 {
		return 0, api.ErrGap
	}
	return 0, api.OK
}

// P5.1: galleys with something changed have the error that the chapter lists first.
func TestMadeGalleys(t *testing.T) {
	m := newMaker(1)
	found := map[api.Errno]int{}
	for range 20000 {
		g := m.book().g
		for range m.Intn(3) {
			x := &g.Items[m.Intn(len(g.Items))]
			switch m.Intn(6) {
			case 0:
				x.Kind = m.Intn(7) - 1
			case 1:
				x.Height = m.Intn(3) - 1
			case 2:
				x.Note = m.Intn(5) - 2
			case 3:
				x.Line += m.Intn(3) - 1
			case 4:
				x.Of += m.Intn(3) - 1
			case 5:
				g.Notes = append(g.Notes, 1)
			}
		}
		n, e := page.CheckGalley(g)
		number, want := errorOf(g)
		wantNumber(t, "CheckGalley of a made one", n, e, number, want)
		found[e]++
	}
	for _, e := range []api.Errno{api.OK, api.ErrKind, api.ErrRange, api.ErrForm, api.ErrOrder, api.ErrMissing, api.ErrDouble, api.ErrOpen, api.ErrGap} {
		if found[e] < 50 {
			t.Errorf("only %d galleys with the error %d", found[e], e)
		}
	}
}

// wrongRules has rules with an error; it is always ErrRange.
func wrongRules() map[string]api.PageRules {
	type rule = api.PageRules
	wrong := map[string]api.PageRules{"nothing": {}}
	for what, how := range map[string]func(r *rule, n int){
		"the height":   func(r *rule, n int) { r.Height = n },
		"the note gap": func(r *rule, n int) { r.NoteGap = n },
		"the widow":    func(r *rule, n int) { r.Widow = n },
		"the orphan":   func(r *rule, n int) { r.Orphan = n },
	} {
		most := 1000000
		if what == "the height" || what == "the note gap" {
			most = 2000
		}
		wrong[what+" -1"] = changed(rules(), func(r *rule) { how(r, -1) })
		wrong[what+" too great"] = changed(rules(), func(r *rule) { how(r, most+1) })
		wrong[what+" far too great"] = changed(rules(), func(r *rule) { how(r, great) })
	}
	wrong["the height 0"] = changed(rules(), func(r *rule) { r.Height = 0 })
	return wrong
}

// P5.1: what is rules.
func TestCheckRules(t *testing.T) {
	for what, r := range map[string]api.PageRules{
		"the examples": rules(),
		"the least":    {Height: 1},
		"the most":     {Height: 2000, NoteGap: 2000, Widow: 1000000, Orphan: 1000000},
	} {
		if e := page.CheckRules(r); e != api.OK {
			t.Errorf("CheckRules, %s: %d", what, e)
		}
	}
	for what, r := range wrongRules() {
		if e := page.CheckRules(r); e != api.ErrRange {
			t.Errorf("CheckRules, %s: %d", what, e)
		}
	}
}
