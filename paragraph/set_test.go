package paragraph_test

import (
	"slices"
	"testing"

	"tympan/api"
	"tympan/line"
	"tympan/paragraph"
)

// P4.5: set lines at breaks.
func TestSetAt(t *testing.T) {
	type rule = api.ParagraphRules
	indented := func(indent int) api.ParagraphRules { return changed(rules(), func(r *rule) { r.Indent = indent }) }
	of := func(measure int) api.ParagraphRules { return changed(rules(), func(r *rule) { r.Measure = measure }) }
	plenty := same(20, 6)
	for _, c := range []struct {
		what   string
		counts []int
		r      api.ParagraphRules
		words  []api.ParagraphWord
		breaks []int
		want   [][]int
		number int
		e      api.Errno
	}{
		{"example 3", plenty, rules(), four(), []int{3, 5}, [][]int{{0, 3, 0, 3, 0, 5}, {0, 3, 0, 3, 3, 3}}, 0, api.OK},
		{"just enough", []int{5, 0, 0, 6, 0, 1}, rules(), four(), []int{3, 5}, [][]int{{0, 3, 0, 3, 0, 5}, {0, 3, 0, 3, 3, 3}}, 0, api.OK},
		{"no words", same(0, 6), indented(320), nil, nil, nil, 0, api.OK},
		// The last line is filled at its end if it has room for the gaps that it wants, and else justified.
		{"the last line has room", plenty, of(1300), five()[:3], []int{3}, [][]int{{0, 3, 0, 3, 0}}, 0, api.OK},
		{"the last line has not", plenty, of(1140), five()[:3], []int{3}, [][]int{{0, 4, 0, 4, 0}}, 0, api.OK},
		{"the last line has more", plenty, of(1500), five()[:3], []int{3}, [][]int{{0, 3, 0, 3, 0, 3}}, 0, api.OK},
		{"no other line is filled at its end", plenty, of(1840), repeated(word(0), 6), []int{4, 6}, [][]int{{0, 3, 0, 3, 0, 4, 4, 0}, {0, 3, 0, 3, 3, 3, 3, 4, 4}}, 0, api.OK},
		{"the last line alone cannot be filled", plenty, of(1540), five(), []int{3, 5}, nil, 1, api.ErrNone},
		{"a word alone", plenty, of(300), five()[:1], []int{1}, [][]int{{0}}, 0, api.OK},
		{"a word alone with room", plenty, of(620), five()[:1], []int{1}, [][]int{{0, 3, 4}}, 0, api.OK},
		// The indent of the first line.
		{"an indent, widest first", plenty, changed(of(2160), func(r *rule) { r.Indent = 320 }), repeated(word(0), 6), []int{4, 6}, [][]int{{3, 4, 0, 3, 0, 3, 0, 4, 4, 0}, {0, 3, 0, 3, 3, 3, 3, 3, 4, 4, 4}}, 0, api.OK},
		{"an indent that leaves no room", plenty, indented(200), four(), []int{3, 5}, nil, 0, api.ErrBreak},
		{"an indent of a line alone", plenty, indented(240), four()[:2], []int{2}, [][]int{{4, 4, 0, 3, 0, 4, 4, 4}}, 0, api.OK},
		{"an indent beside which nothing is filled", plenty, indented(320), four()[:2], []int{2}, nil, 0, api.ErrNone},
		{"an indent, and room", plenty, indented(400), four()[:2], []int{2}, [][]int{{3, 3, 0, 3, 0, 3}}, 0, api.OK},
		{"an indent that is not filled", plenty, indented(100), four()[:2], []int{2}, nil, 0, api.ErrNone},
		// What the case has not.
		{"too few letters for the second line", []int{4, 9, 9, 20, 9, 9}, rules(), four(), []int{3, 5}, nil, 1, api.ErrStock},
		{"too few letters for the first line", []int{2, 9, 9, 20, 9, 9}, rules(), four(), []int{3, 5}, nil, 0, api.ErrStock},
		{"no hyphen", []int{9, 9, 9, 20, 9, 0}, rules(), four(), []int{3, 5}, nil, 0, api.ErrStock},
		{"no space for the gap of the last line", []int{9, 9, 9, 2, 9, 9}, rules(), four(), []int{3, 5}, nil, 1, api.ErrStock},
		{"no space for its end", []int{9, 9, 9, 5, 2, 9}, rules(), four(), []int{3, 5}, nil, 1, api.ErrNone},
		{"no spaces for the first line", []int{9, 9, 9, 1, 9, 9}, rules(), four(), []int{3, 5}, nil, 0, api.ErrNone},
		{"no spaces for the indent", []int{9, 9, 9, 1, 1, 9}, indented(400), four()[:2], []int{2}, nil, 0, api.ErrNone},
		// The errors of breaks, with 0.
		{"no place", same(0, 6), rules(), four(), []int{3, 6}, nil, 0, api.ErrMissing},
		{"the place 0", same(0, 6), rules(), four(), []int{0, 5}, nil, 0, api.ErrOrder},
		{"no breaks", same(0, 6), rules(), four(), nil, nil, 0, api.ErrShape},
		{"a second line that is not allowed", same(0, 6), rules(), repeated(word(0), 8), []int{3, 5, 8}, nil, 0, api.ErrBreak},
	} {
		lines, n, e := paragraph.SetAt(roman(), c.counts, c.r, c.words, c.breaks)
		var want []api.TypeLine
		if c.e == api.OK {
			for _, sorts := range c.want {
				want = append(want, lineOf(c.r.Measure, sorts...))
			}
		}
		if e != c.e || n != c.number || !sameLines(lines, want) {
			t.Errorf("SetAt, %s: %v, %d, error %d, want %v, %d, error %d", c.what, lines, n, e, want, c.number, c.e)
		}
	}
}

// P4.5: spaces of an indent stand widest first, of equal widths those with the lesser number first.
func TestIndents(t *testing.T) {
	f := small([]int{1}, 1, 10, 20, 10, 20)
	counts := []int{9, 9, 1, 1, 2, 1}
	r := api.ParagraphRules{Measure: 61, Indent: 60, Least: 10, Most: 10, Gap: 2, Hyphen: 1}
	lines, n, e := paragraph.SetAt(f, counts, r, []api.ParagraphWord{word(0)}, []int{1})
	if e != api.OK || n != 0 || !sameLines(lines, []api.TypeLine{lineOf(61, 3, 5, 4, 4, 0)}) {
		t.Errorf("SetAt with an indent: %v, %d, error %d", lines, n, e)
	}
	// The case has an indent of 13 spaces, but there are at most 12.
	r.Measure, r.Indent = 131, 130
	lines, n, e = paragraph.SetAt(f, []int{9, 9, 13, 0, 0, 0}, r, []api.ParagraphWord{word(0)}, []int{1})
	if e != api.ErrNone || n != 0 || len(lines) != 0 {
		t.Errorf("SetAt with an indent of 13: %v, %d, error %d", lines, n, e)
	}
	// More kinds of spaces than package line takes: the error of a line, not of the paragraph.
	many := small([]int{1}, 1, 1, 2, 3, 4, 5, 6, 7, 8, 9)
	for _, indent := range []int{0, 1} {
		r = api.ParagraphRules{Measure: 2, Indent: indent, Least: 1, Most: 1, Gap: 2, Hyphen: 1}
		lines, n, e = paragraph.SetAt(many, same(9, 11), r, []api.ParagraphWord{word(0)}, []int{1})
		if e != api.ErrLarge || n != 0 || len(lines) != 0 {
			t.Errorf("SetAt with nine kinds of spaces: %v, %d, error %d", lines, n, e)
		}
		lines, n, e = paragraph.SetAt(many, same(9, 11), r, nil, nil)
		if e != api.OK || n != 0 || len(lines) != 0 {
			t.Errorf("SetAt with nine kinds of spaces, no words: %v, %d, error %d", lines, n, e)
		}
	}
}

// P4.5: lines at the best breaks.
func TestSet(t *testing.T) {
	example3 := []api.TypeLine{lineOf(1400, 0, 3, 0, 3, 0, 5), lineOf(1400, 0, 3, 0, 3, 3, 3)}
	none := changed(rules(), func(r *api.ParagraphRules) { r.Measure = 299 })
	for _, c := range []struct {
		what   string
		counts []int
		r      api.ParagraphRules
		words  []api.ParagraphWord
		want   []api.TypeLine
		number int
		e      api.Errno
	}{
		{"example 3", same(20, 6), rules(), four(), example3, 0, api.OK},
		{"no words", same(0, 6), rules(), nil, nil, 0, api.OK},
		{"no breaks", same(20, 6), none, four(), nil, 0, api.ErrGap},
		{"no breaks, and nothing to set", same(0, 6), none, four(), nil, 0, api.ErrGap},
		{"nothing to set", same(0, 6), rules(), four(), nil, 0, api.ErrStock},
		{"too few for the second line", []int{4, 0, 0, 20, 0, 1}, rules(), four(), nil, 1, api.ErrStock},
		// Three words in the first line leave 500, which is nothing that spaces make.
		{"gaps that are not filled", same(20, 6), rules(), five(), nil, 0, api.ErrNone},
	} {
		lines, n, e := paragraph.Set(roman(), c.counts, c.r, c.words)
		if e != c.e || n != c.number || !sameLines(lines, c.want) {
			t.Errorf("Set, %s: %v, %d, error %d, want %v, %d, error %d", c.what, lines, n, e, c.want, c.number, c.e)
		}
	}
}

// P4.5: the word and the sort at which a case has no more.
func TestLacks(t *testing.T) {
	for _, c := range []struct {
		what   string
		counts []int
		words  []api.ParagraphWord
		want   [2]int
		e      api.Errno
	}{
		{"example 5", []int{3, 0, 0, 9, 9, 1}, four(), [2]int{2, 0}, api.OK},
		{"enough", []int{5, 0, 0, 0, 0, 0}, four(), [2]int{}, api.ErrNone},
		{"one too few", []int{4, 0, 0, 0, 0, 0}, four(), [2]int{3, 0}, api.OK},
		{"nothing", same(0, 6), four(), [2]int{0, 0}, api.OK},
		{"no words", same(0, 6), nil, [2]int{}, api.ErrNone},
		{"the first one of two", []int{1, 0, 0, 0, 0, 0}, []api.ParagraphWord{word(0), word(2, 1, 0)}, [2]int{1, 2}, api.OK},
		{"within a word", []int{1, 1, 1, 0, 0, 0}, []api.ParagraphWord{word(0), word(2, 1, 0, 5)}, [2]int{1, 0}, api.OK},
	} {
		at, e := paragraph.Lacks(roman(), c.counts, c.words)
		if e != c.e || at != c.want {
			t.Errorf("Lacks, %s: %v, error %d, want %v, error %d", c.what, at, e, c.want, c.e)
		}
	}
}

// set is the set lines of a paragraph at right breaks, as the chapter says it, by package line.
func (x text) set(counts, breaks []int) ([]api.TypeLine, int, api.Errno) {
	left := slices.Clone(counts)
	var lines []api.TypeLine
	from := 0
	for i, to := range breaks {
		task := api.LineTask{Fount: x.f, Case: left, Words: x.pieces(from, to), Measure: x.r.Measure}
		if from == 0 && x.r.Indent > 0 {
			spaces, e := line.Fill(x.f, left, x.r.Indent)
			if e != api.OK {
				return nil, i, e
			}
			for width := 10; width > 0; width-- {
				for sort, n := range spaces {
					if x.f.Sorts[sort].Width == width {
						task.Indent = append(task.Indent, same(sort, n)...)
					}
				}
			}
		}
		var l api.TypeLine
		e := api.OK
		if x.isLast(to) && x.room(from, to) >= (len(task.Words)-1)*x.f.Sorts[x.r.Gap].Width {
			l, e = line.Ragged(task, api.LineRagged{Gap: x.r.Gap, Side: api.LineLeft})
		} else {
			l, e = line.Justify(task)
		}
		if e != api.OK {
			return nil, i, e
		}
		for _, sort := range l.Sorts {
			left[sort]--
		}
		lines = append(lines, l)
		from = to
	}
	return lines, 0, api.OK
}

// P4.5, P4.8: lines are set as the definitions say, have their measure and their pieces, need no more
// than there is, and are read back.
func TestMadeLinesAreSet(t *testing.T) {
	m := newMaker(5)
	done := map[api.Errno]int{}
	for range 1500 {
		x := m.text()
		counts := make([]int, len(x.f.Sorts))
		for i := range counts {
			counts[i] = m.Intn(12) + m.Intn(2)*20
		}
		best, _, _, found := paragraph.Best(x.f, x.r, x.words)
		lines, n, e := paragraph.Set(x.f, counts, x.r, x.words)
		if found != api.OK {
			if e != api.ErrGap || n != 0 || len(lines) != 0 {
				t.Errorf("Set of %v: %v, %d, error %d", x, lines, n, e)
			}
			continue
		}
		// Which best breaks Set takes is its own, so it is checked where there is one choice.
		count := 0
		least, _ := x.breaksDemerits(best)
		x.each(func(breaks []int) {
			if d, right := x.breaksDemerits(breaks); right && d == least {
				count++
			}
		})
		want, wantNumber, wantError := x.set(counts, best)
		if count == 1 && (e != wantError || n != wantNumber || !sameLines(lines, want)) {
			t.Errorf("Set of %v, %v: %v, %d, error %d, want %v, %d, error %d", x, counts, lines, n, e, want, wantNumber, wantError)
		}
		lines, n, e = paragraph.SetAt(x.f, counts, x.r, x.words, best)
		if e != wantError || n != wantNumber || !sameLines(lines, want) {
			t.Errorf("SetAt of %v, %v: %v, %d, error %d, want %v, %d, error %d", x, counts, lines, n, e, want, wantNumber, wantError)
		}
		if done[e]++; e == api.OK {
			checkReadBack(t, x, counts, lines, best)
		}
	}
	if done[api.OK] < 200 || done[api.ErrNone] < 50 || done[api.ErrStock] < 50 {
		t.Errorf("only %v", done)
	}
}

// checkReadBack fails the test if set lines are not what P4.8 says.
func checkReadBack(t *testing.T, x text, counts []int, lines []api.TypeLine, breaks []int) {
	t.Helper()
	need := make([]int, len(counts))
	from := 0
	for i, l := range lines {
		for _, sort := range l.Sorts {
			need[sort]++
		}
		if l.Measure != x.r.Measure || widthOf(x.f, l.Sorts) != x.r.Measure {
			t.Errorf("the line %v of %v: its width is %d", l, x, widthOf(x.f, l.Sorts))
		}
		words, e := line.WordsOf(x.f, l)
		wantLists(t, "the words of a line", words, e, x.pieces(from, breaks[i]), api.OK)
		from = breaks[i]
	}
	for sort, n := range need {
		if n > counts[sort] {
			t.Errorf("the lines of %v need %d of the sort %d, of %d", x, n, sort, counts[sort])
		}
	}
	broken, e := paragraph.Broken(x.f, x.words, breaks)
	if e != api.OK {
		t.Errorf("Broken of %v, %v: error %d", x, breaks, e)
	}
	var sorts [][]int
	for _, w := range x.words {
		sorts = append(sorts, w.Sorts)
	}
	words, e := paragraph.Joined(x.f, lines, broken)
	wantLists(t, "Joined of set lines", words, e, sorts, api.OK)
}
