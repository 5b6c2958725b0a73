package paragraph_test

import (
	"slices"
	"strconv"
	"testing"

	"tympan/api"
	"tympan/paragraph"
)

// P4.2: the places of words.
func TestPlaces(t *testing.T) {
	type places = [][2]int
	for _, c := range []struct {
		what  string
		words []api.ParagraphWord
		want  places
	}{
		{"none", nil, places{{0, 0}}},
		{"a word", []api.ParagraphWord{word(2, 1)}, places{{0, 0}, {1, 0}}},
		{"example 1", five(), places{{0, 0}, {1, 0}, {2, 0}, {3, 0}, {4, 0}, {5, 0}}},
		{"example 2", four(), places{{0, 0}, {1, 0}, {2, 0}, {2, 1}, {3, 0}, {4, 0}}},
		{"a word in three", []api.ParagraphWord{divided(word(0, 0, 1, 1), 1, 3), word(0)}, places{{0, 0}, {0, 1}, {0, 3}, {1, 0}, {2, 0}}},
	} {
		var want []api.ParagraphPlace
		for _, at := range c.want {
			want = append(want, api.ParagraphPlace{Word: at[0], Part: at[1]})
		}
		got, e := paragraph.Places(roman(), c.words)
		wantList(t, "Places, "+c.what, got, e, want, api.OK)
	}
	m := newMaker(1)
	for range 300 {
		x := m.text()
		got, e := paragraph.Places(x.f, x.words)
		wantList(t, "Places of made words", got, e, x.places(), api.OK)
	}
}

// P4.2: the pieces of lines.
func TestLineAt(t *testing.T) {
	long := []api.ParagraphWord{divided(word(0, 1, 2, 0, 1), 1, 3), word(2)}
	for _, c := range []struct {
		what  string
		words []api.ParagraphWord
		at    [2]int
		want  [][]int
		e     api.Errno
	}{
		{"example 2, the first line", four(), [2]int{0, 3}, [][]int{{0}, {0}, {0, 5}}, api.OK},
		{"example 2, the last line", four(), [2]int{3, 5}, [][]int{{0}, {0}}, api.OK},
		{"example 2, all", four(), [2]int{0, 5}, [][]int{{0}, {0}, {0, 0}, {0}}, api.OK},
		{"a beginning", long, [2]int{0, 1}, [][]int{{0, 5}}, api.OK},
		{"within a word", long, [2]int{1, 2}, [][]int{{1, 2, 5}}, api.OK},
		{"the end of a word", long, [2]int{2, 3}, [][]int{{0, 1}}, api.OK},
		{"a whole word", long, [2]int{0, 3}, [][]int{{0, 1, 2, 0, 1}}, api.OK},
		{"from within", long, [2]int{1, 4}, [][]int{{1, 2, 0, 1}, {2}}, api.OK},
		// Errors, each one ahead of later ones.
		{"from -1", five(), [2]int{-1, -2}, nil, api.ErrMissing},
		{"from -1 to a place", five(), [2]int{-1, 3}, nil, api.ErrMissing},
		{"from the place 6", five(), [2]int{6, 1}, nil, api.ErrMissing},
		{"to the place 6", five(), [2]int{0, 6}, nil, api.ErrMissing},
		{"to -1", five(), [2]int{3, -1}, nil, api.ErrMissing},
		{"great places", five(), [2]int{1<<63 - 1, -1 << 63}, nil, api.ErrMissing},
		{"backwards", five(), [2]int{3, 2}, nil, api.ErrOrder},
		{"nowhere", five(), [2]int{5, 5}, nil, api.ErrOrder},
		{"without words", nil, [2]int{0, 0}, nil, api.ErrOrder},
		{"to a place of no words", nil, [2]int{0, 1}, nil, api.ErrMissing},
	} {
		got, e := paragraph.LineAt(roman(), rules(), c.words, c.at)
		wantLists(t, "LineAt, "+c.what, got, e, c.want, c.e)
		if c.e != api.OK {
			d, e := paragraph.DemeritsOf(roman(), rules(), c.words, c.at)
			wantNumber(t, "DemeritsOf, "+c.what, d, e, 0, c.e)
		}
	}
}

// P4.2: the demerits of lines, and which ones are allowed.
func TestDemeritsOf(t *testing.T) {
	type rule = api.ParagraphRules
	of := func(measure int) api.ParagraphRules { return changed(rules(), func(r *rule) { r.Measure = measure }) }
	indented := func(measure, indent int) api.ParagraphRules {
		return changed(of(measure), func(r *rule) { r.Indent = indent })
	}
	parts := []api.ParagraphWord{word(0), divided(word(0, 0, 0), 1, 2), word(0)}
	for _, c := range []struct {
		what     string
		r        api.ParagraphRules
		words    []api.ParagraphWord
		from, to int
		want     int
		e        api.Errno
	}{
		{"example 1, three words", rules(), five(), 0, 3, 2500, api.OK},
		{"example 1, two words", rules(), five(), 0, 2, 0, api.ErrBreak},
		{"example 1, four words", rules(), five(), 0, 4, 0, api.ErrBreak},
		{"example 1, the last two", rules(), five(), 3, 5, 0, api.OK},
		{"example 2, with a hyphen", rules(), four(), 0, 3, 50, api.OK},
		// Two gaps of three words, from 120 to 400, 200 wanted.
		{"gaps of 120", of(1140), five(), 0, 3, 6400, api.OK},
		{"narrower gaps", of(1139), five(), 0, 3, 0, api.ErrBreak},
		{"gaps of 400", of(1700), five(), 0, 3, 40000, api.OK},
		{"wider gaps", of(1701), five(), 0, 3, 0, api.ErrBreak},
		{"gaps as they are wanted", of(1300), five(), 0, 3, 0, api.OK},
		{"101 too much", of(1401), five(), 0, 3, 2500, api.OK},
		{"99 too much", of(1399), five(), 0, 3, 2401, api.OK},
		{"101 too little", of(1199), five(), 0, 3, 2500, api.OK},
		{"1 too little", of(1299), five(), 0, 3, 0, api.OK},
		{"2 too little", of(1298), five(), 0, 3, 1, api.OK},
		{"from a place within the paragraph", of(1400), five(), 1, 4, 2500, api.OK},
		// The last line.
		{"the last line, gaps of 120", of(1140), five(), 2, 5, 6400, api.OK},
		{"the last line, narrower gaps", of(1139), five(), 2, 5, 0, api.ErrBreak},
		{"the last line, 1 too little", of(1299), five(), 2, 5, 0, api.OK},
		{"the last line, 2 too little", of(1298), five(), 2, 5, 1, api.OK},
		{"the last line, gaps as they are wanted", of(1300), five(), 2, 5, 0, api.OK},
		{"the last line, much room", of(20900), five(), 2, 5, 0, api.OK},
		{"the last line, too much room", of(20901), five(), 2, 5, 0, api.ErrBreak},
		{"the last line, a word", of(300), five(), 4, 5, 0, api.OK},
		{"the last line, a word and a room of 20000", of(20300), five(), 4, 5, 0, api.OK},
		{"the last line, a word and a room of 20001", of(20301), five(), 4, 5, 0, api.ErrBreak},
		{"the last line, a word that is too wide", of(299), five(), 4, 5, 0, api.ErrBreak},
		// One piece that is not the last one.
		{"a word that fits", of(300), five(), 0, 1, 0, api.OK},
		{"a word with room", of(301), five(), 0, 1, 0, api.ErrBreak},
		{"a word without room", of(299), five(), 0, 1, 0, api.ErrBreak},
		{"a piece that fits", of(400), parts, 1, 2, 50, api.OK},
		{"a piece within a word that fits", of(400), parts, 2, 3, 150, api.OK},
		{"the end of a word that fits", of(300), parts, 3, 4, 0, api.OK},
		{"a hyphen without room", of(399), parts, 1, 2, 0, api.ErrBreak},
		// Hyphens.
		{"to within a word", of(900), parts, 0, 2, 50, api.OK},
		{"to further within a word", of(1200), parts, 0, 3, 50, api.OK},
		{"from within a word", of(800), parts, 3, 5, 0, api.OK},
		{"from and to within words", of(900), []api.ParagraphWord{divided(word(0, 0), 1), divided(word(0, 0), 1)}, 1, 3, 150, api.OK},
		{"a hyphen and demerits", of(910), parts, 0, 2, 150, api.OK},
		// An indent.
		{"an indent", indented(1500, 100), five(), 0, 3, 2500, api.OK},
		{"no indent of the second line", indented(1400, 100), five(), 1, 4, 2500, api.OK},
		{"an indent, narrow gaps", indented(1140, 1), five(), 0, 3, 0, api.ErrBreak},
		{"an indent, wide gaps", indented(1701, 1), five(), 0, 3, 40000, api.OK},
		{"an indent, a line alone", indented(2600, 300), five(), 0, 5, 0, api.OK},
		{"an indent, a narrow line alone", indented(2600, 301), five(), 0, 5, 0, api.OK},
		{"an indent, a narrower line alone", indented(2600, 304), five(), 0, 5, 1, api.OK},
		{"an indent that leaves no room", indented(300, 1), five()[:1], 0, 1, 0, api.ErrBreak},
		{"an indent that leaves 20000", indented(20301, 1), five()[:1], 0, 1, 0, api.OK},
	} {
		d, e := paragraph.DemeritsOf(roman(), c.r, c.words, [2]int{c.from, c.to})
		wantNumber(t, "DemeritsOf, "+c.what, d, e, c.want, c.e)
	}
}

// P4.2: the limits of allowed lines.
func TestGreatLines(t *testing.T) {
	f := small([]int{1, 200}, 1, 10, 100)
	r := api.ParagraphRules{Measure: 330, Least: 1, Most: 10000, Gap: 3, Hyphen: 2, Single: 7, Double: 9}
	wide := changed(r, func(r *api.ParagraphRules) { r.Measure = 2000 })
	// So many pieces of one sort, and two of 50.
	pieces := func(n int) []api.ParagraphWord {
		return append(repeated(word(0), n), repeated(word(same(0, 50)...), 2)...)
	}
	sixties := func(n int) []api.ParagraphWord {
		return append(repeated(word(same(0, 60)...), 3), everywhere(same(0, n)...), word(0))
	}
	for _, c := range []struct {
		what     string
		r        api.ParagraphRules
		words    []api.ParagraphWord
		from, to int
		want     int
		e        api.Errno
	}{
		{"30 pieces", r, pieces(40), 3, 33, 0, api.OK},
		{"31 pieces", r, pieces(40), 3, 34, 0, api.ErrBreak},
		{"30 pieces at last", r, pieces(28), 0, 30, 9, api.OK},
		{"30 pieces at last, with room", wide, pieces(28), 0, 30, 0, api.OK},
		{"31 pieces at last", r, pieces(29), 0, 31, 0, api.ErrBreak},
		{"31 pieces at last, with room", wide, pieces(29), 0, 31, 0, api.ErrBreak},
		{"29 words and a piece", r, append(repeated(word(0), 29), everywhere(0, 0)), 0, 30, 7, api.OK},
		{"30 words and a piece", r, append(repeated(word(0), 30), everywhere(0, 0)), 0, 31, 0, api.ErrBreak},
		{"188 sorts", wide, sixties(8), 0, 11, 594 * 594, api.OK},
		{"189 sorts", wide, sixties(9), 0, 12, 0, api.ErrBreak},
		{"188 sorts at last", wide, sixties(7), 0, 11, 0, api.OK},
		{"189 sorts at last", wide, sixties(8), 0, 12, 0, api.ErrBreak},
		{"187 sorts and a hyphen", wide, sixties(9), 0, 10, 594*594 + 7, api.OK},
		{"188 sorts and a hyphen", wide, sixties(9), 0, 11, 0, api.ErrBreak},
		{"a piece of 59 and a hyphen", r, []api.ParagraphWord{word(0), everywhere(same(0, 60)...)}, 0, 60, 259*259 + 7, api.OK},
		{"a room of 20000", changed(r, func(r *api.ParagraphRules) { r.Measure = 20003 }), repeated(word(0), 4), 0, 3, 9990 * 9990, api.OK},
		{"a room of 20001", changed(r, func(r *api.ParagraphRules) { r.Measure = 20004 }), repeated(word(0), 5), 0, 3, 0, api.ErrBreak},
		{"the widest line", changed(r, func(r *api.ParagraphRules) { r.Measure = 200 * 188 }), repeated(word(same(1, 47)...), 5), 0, 4, 0, api.ErrBreak},
	} {
		d, e := paragraph.DemeritsOf(f, c.r, c.words, [2]int{c.from, c.to})
		wantNumber(t, "DemeritsOf, "+c.what, d, e, c.want, c.e)
	}
}

// P4.2: pieces and demerits are those of the definitions.
func TestMadeLines(t *testing.T) {
	m := newMaker(2)
	allowed := map[bool]int{}
	for range 400 {
		x := m.text()
		for to := range x.places() {
			for from := range to {
				at := [2]int{from, to}
				pieces, e := paragraph.LineAt(x.f, x.r, x.words, at)
				wantLists(t, "LineAt of made words", pieces, e, x.pieces(from, to), api.OK)
				want, wantError := 0, api.ErrBreak
				isAllowed := x.allowed(from, to)
				if allowed[isAllowed]++; isAllowed {
					want, wantError = x.demerits(from, to), api.OK
				}
				d, e := paragraph.DemeritsOf(x.f, x.r, x.words, at)
				wantNumber(t, "DemeritsOf of made words", d, e, want, wantError)
			}
		}
	}
	if min(allowed[true], allowed[false]) < 1000 {
		t.Errorf("only %v lines", allowed)
	}
}

// R2: lines of the greatest paragraph with the widest sorts.
func TestWidestParagraph(t *testing.T) {
	f := small([]int{100000}, 100000, 1)
	r := api.ParagraphRules{Measure: 1000000, Least: 1, Most: 1, Gap: 2, Hyphen: 1}
	words := repeated(word(same(0, 60)...), 200)
	pieces, e := paragraph.LineAt(f, r, words, [2]int{0, 200})
	if e != api.OK || len(pieces) != 200 || len(slices.Concat(pieces...)) != 12000 {
		t.Errorf("LineAt of all words: %s pieces, error %d", strconv.Itoa(len(pieces)), e)
	}
	d, e := paragraph.DemeritsOf(f, r, words, [2]int{0, 200})
	wantNumber(t, "DemeritsOf of all words", d, e, 0, api.ErrBreak)
}
