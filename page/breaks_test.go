package page_test

import (
	"slices"
	"testing"

	"tympan/api"
	"tympan/page"
)

const most = api.MaxPageCost

// checkBest fails the test if Best of a book, whose least cost is known (most: none), is not right.
func checkBest(t *testing.T, b book, want int) {
	t.Helper()
	breaks, labels, cost, e := page.Best(b.g, b.r)
	if want == most {
		if e != api.ErrNone || !isZero([]any{breaks, labels, cost}) {
			t.Errorf("Best of %v: %v, %v, %d, error %d, want none", b, breaks, labels, cost, e)
		}
		return
	}
	if e != api.OK || cost != want || len(labels) == 0 || labels[len(labels)-1] != want {
		t.Errorf("Best of %v: %v, %v, %d, error %d, want %d", b, breaks, labels, cost, e, want)
	}
	cost, e = page.CheckBreaks(b.g, b.r, breaks)
	wantNumber(t, "CheckBreaks of Best", cost, e, want, api.OK)
	last, e := page.CheckLabels(b.g, b.r, labels)
	wantNumber(t, "CheckLabels of Best", last, e, want, api.OK)
}

// P5.3: the examples, and galleys without breaks.
func TestBest(t *testing.T) {
	type rule = api.PageRules
	low := changed(rules(), func(r *rule) { r.Height = 13 })
	for _, c := range []struct {
		what string
		g    api.PageGalley
		r    api.PageRules
		cost int
	}{
		{"example 2", example(), rules(), 16},
		{"example 3", withNote(), rules(), 888},
		{"one page", galleyOf(row(1)), rules(), 0},
		{"one page that begins with a gap", galleyOf(gap(2000), row(40), gap(2000)), rules(), 0},
		{"all headings", galleyOf(heading(20), heading(20)), rules(), 0},
		{"too many headings", galleyOf(heading(20), heading(21)), rules(), most},
		{"a heading that fits with nothing", galleyOf(row(20), heading(30), row(11)), rules(), most},
		{"an item that is too high", galleyOf(row(1), row(41), row(1)), rules(), most},
		{"a note that is too high", noted(galleyOf(row(1), calling(row(1), 0)), 36), rules(), most},
		{"a note that just fits", noted(galleyOf(row(1), calling(row(1), 0)), 35), rules(), 39 * 39},
		{"gaps alone", galleyOf(gap(1), gap(2)), rules(), most},
		{"a page each", galleyOf(lines(12, 4)...), low, 1 + 100 + 1 + 1 + 100},
		{"a widow with an orphan, and a widow", galleyOf(append(lines(20, 3), lines(20, 2)...)...), rules(), 300},
	} {
		checkBest(t, book{c.g, c.r}, c.cost)
	}
	breaks, _, _, e := page.Best(example(), rules())
	if e != api.OK || !slices.Equal(breaks, []int{3, 7}) && !slices.Equal(breaks, []int{4, 7}) {
		t.Errorf("Best, example 2: %v, error %d", breaks, e)
	}
	if breaks, labels, cost, e := page.Best(api.PageGalley{}, rules()); e != api.ErrShape || !isZero([]any{breaks, labels, cost}) {
		t.Errorf("Best of nothing: %v, %v, %d, error %d", breaks, labels, cost, e)
	}
}

// P5.3: breaks, and what is wrong with them.
func TestCheckBreaks(t *testing.T) {
	type rule = api.PageRules
	for _, c := range []struct {
		what   string
		g      api.PageGalley
		r      api.PageRules
		breaks []int
		want   int
		e      api.Errno
	}{
		{"example 2", example(), rules(), []int{3, 7}, 16, api.OK},
		{"example 2, the gap ahead", example(), rules(), []int{4, 7}, 16, api.OK},
		{"example 3", withNote(), rules(), []int{2, 4, 7}, 4 + 884, api.OK},
		{"three pages", example(), rules(), []int{2, 4, 7}, 256 + 884, api.OK},
		{"many pages", example(), rules(), []int{1, 2, 4, 6, 7}, 884 + 784 + 884 + 296 + 100, api.OK},
		{"one page", galleyOf(row(1)), rules(), []int{1}, 0, api.OK},
		// Errors, each one ahead of later ones.
		{"behind the galley", example(), rules(), []int{3, 8, 2}, 0, api.ErrRange},
		{"ahead of the galley", example(), rules(), []int{-1, 7}, 0, api.ErrRange},
		{"ahead of the page", example(), rules(), []int{3, -1, 7}, 0, api.ErrRange},
		{"a great place", example(), rules(), []int{great}, 0, api.ErrRange},
		{"the place 0", example(), rules(), []int{0, 8}, 0, api.ErrOrder},
		{"a place twice", example(), rules(), []int{3, 3, 8}, 0, api.ErrOrder},
		{"a place ahead", example(), rules(), []int{3, 2, 8}, 0, api.ErrOrder},
		{"behind the end", example(), rules(), []int{3, 7, 7}, 0, api.ErrOrder},
		{"a gap alone", example(), rules(), []int{3, 4, 9}, 0, api.ErrForm},
		{"too long", example(), rules(), []int{5, 9}, 0, api.ErrBreak},
		{"too long at last", example(), rules(), []int{2, 7}, 0, api.ErrBreak},
		{"a heading", example(), rules(), []int{3, 5, 9}, 0, api.ErrKind},
		{"not to the end", example(), rules(), []int{3}, 0, api.ErrGap},
		{"no breaks", example(), rules(), nil, 0, api.ErrGap},
		{"no items, no breaks", galleyOf(), rules(), nil, 0, api.ErrGap},
		{"no items, the place 0", galleyOf(), rules(), []int{0}, 0, api.ErrOrder},
		{"no items, the place 1", galleyOf(), rules(), []int{1}, 0, api.ErrRange},
	} {
		cost, e := page.CheckBreaks(c.g, c.r, c.breaks)
		wantNumber(t, "CheckBreaks, "+c.what, cost, e, c.want, c.e)
	}
}

// P5.3: labels, and what is wrong with them.
func TestCheckLabels(t *testing.T) {
	right := []int{0, 884, 256, 16, 16, 16, 312, 16}
	with := func(place, label int) []int {
		labels := slices.Clone(right)
		labels[place] = label
		return labels
	}
	for _, c := range []struct {
		what   string
		g      api.PageGalley
		labels []int
		want   int
		e      api.Errno
	}{
		{"example 2", example(), right, 16, api.OK},
		{"all 0", example(), same(0, 8), 0, api.OK},
		{"lesser ones", example(), []int{0, 5, 256, 16, 16, 16, 1, 7}, 7, api.OK},
		{"example 3", withNote(), []int{0, 884, 4, 788, 788, most, 1084, 788}, 788, api.OK},
		{"no page ends there", example(), with(5, most), 16, api.OK},
		{"a gap", galleyOf(gap(1)), []int{0, most}, most, api.OK},
		{"no items", galleyOf(), []int{0}, 0, api.OK},
		{"one page", galleyOf(row(1)), []int{0, 0}, 0, api.OK},
		// Errors, each one ahead of later ones.
		{"the label 1", example(), with(1, 885), 0, api.ErrProof},
		{"the label 2", example(), with(2, 257), 0, api.ErrProof},
		{"the label 3", example(), with(3, 17), 0, api.ErrProof},
		{"the label 4", example(), with(4, 17), 0, api.ErrProof},
		{"the label 6", example(), with(6, 313), 0, api.ErrProof},
		{"the label 7", example(), with(7, 17), 0, api.ErrProof},
		{"too great for the one before", example(), with(5, 15), 0, api.ErrProof},
		{"the first one is not 0", example(), []int{1, 1, 1, 1, 1, 1, 1, 1}, 0, api.ErrProof},
		{"one page, too great", galleyOf(row(1)), []int{0, 1}, 0, api.ErrProof},
		{"no items, not 0", galleyOf(), []int{1}, 0, api.ErrProof},
		{"too few", example(), same(-1, 7), 0, api.ErrShape},
		{"too many", example(), same(-1, 9), 0, api.ErrShape},
		{"no items, no labels", galleyOf(), nil, 0, api.ErrShape},
		{"the label -1", example(), append(same(1, 7), -1), 0, api.ErrRange},
		{"the first label -1", example(), same(-1, 8), 0, api.ErrRange},
		{"a label above the most", example(), with(5, most+1), 0, api.ErrRange},
		{"a great label", example(), with(5, great), 0, api.ErrRange},
	} {
		last, e := page.CheckLabels(c.g, rules(), c.labels)
		wantNumber(t, "CheckLabels, "+c.what, last, e, c.want, c.e)
	}
}

// P5.3: pages that are as long as possible.
func TestGreedy(t *testing.T) {
	for _, c := range []struct {
		what string
		g    api.PageGalley
		want []int
		e    api.Errno
	}{
		{"example 1", example(), []int{4, 7}, api.OK},
		{"example 3", withNote(), []int{2, 4, 7}, api.OK},
		{"one page", galleyOf(row(20), row(20)), []int{2}, api.OK},
		{"a gap at the end", galleyOf(row(20), row(20), gap(9)), []int{3}, api.OK},
		{"not with a heading", galleyOf(row(20), heading(20), row(20)), []int{1, 3}, api.OK},
		{"a heading at the end", galleyOf(row(30), row(20), heading(20)), []int{1, 3}, api.OK},
		{"a page behind one that is not possible", galleyOf(row(10), heading(10), row(10), row(20)), []int{3, 4}, api.OK},
		{"the longest one leads nowhere", galleyOf(row(10), row(10), row(10), gap(20), heading(35), gap(1), row(5)), nil, api.ErrNone},
		{"no first page", galleyOf(row(41), row(1)), nil, api.ErrNone},
		{"no last page", galleyOf(row(1), row(40), row(41)), nil, api.ErrNone},
		{"a gap behind a full page", galleyOf(row(40), gap(1), row(40), gap(1)), []int{2, 4}, api.OK},
		{"gaps alone", galleyOf(gap(1), gap(2)), nil, api.ErrNone},
		{"nothing", galleyOf(), nil, api.ErrShape},
	} {
		breaks, e := page.Greedy(c.g, rules())
		wantList(t, "Greedy, "+c.what, breaks, e, c.want, c.e)
	}
}

// greedy is the breaks that Greedy finds, as the chapter says it.
func (b book) greedy() ([]int, api.Errno) {
	var breaks []int
	for from := 0; from < b.end(); {
		to := b.end()
		for to > from {
			if _, e := b.cost(from, to); e == api.OK {
				break
			}
			to--
		}
		if to == from {
			return nil, api.ErrNone
		}
		breaks = append(breaks, to)
		from = to
	}
	return breaks, api.OK
}

// P5.3, P5.8: what is found is the best of all breaks; breaks and labels are right just if the
// definitions say so.
func TestMadeBooks(t *testing.T) {
	m := newMaker(3)
	found, greedy := map[bool]int{}, map[bool]int{}
	for range 1500 {
		b := m.book()
		least := most
		b.each(func(breaks []int) {
			want, wantError := b.costOf(breaks)
			if wantError == api.OK {
				least = min(least, want)
			}
			cost, e := page.CheckBreaks(b.g, b.r, breaks)
			wantNumber(t, "CheckBreaks of made ones", cost, e, want, wantError)
		})
		checkBest(t, b, least)
		found[least < most]++
		want, wantError := b.greedy()
		breaks, e := page.Greedy(b.g, b.r)
		wantList(t, "Greedy of a made book", breaks, e, want, wantError)
		greedy[e == api.OK]++
	}
	if min(found[true], found[false], greedy[true], greedy[false]) < 200 {
		t.Errorf("only %v books with breaks, %v by Greedy", found, greedy)
	}
}

// P5.3, P5.8: labels are right just if the definition says so.
func TestMadeLabels(t *testing.T) {
	m := newMaker(4)
	found := map[bool]int{}
	for range 1500 {
		b := m.book()
		_, labels, least, e := page.Best(b.g, b.r)
		if e != api.OK {
			labels, least = same(0, b.end()+1), most
		}
		for range 6 {
			made := slices.Clone(labels)
			for i := range made {
				if m.Intn(4) == 0 {
					made[i] = min(most, max(0, made[i]-3+m.Intn(5)))
				}
			}
			want, wantError := made[b.end()], api.OK
			right := b.rightLabels(made)
			if found[right]++; !right {
				want, wantError = 0, api.ErrProof
			}
			last, e := page.CheckLabels(b.g, b.r, made)
			wantNumber(t, "CheckLabels of made ones", last, e, want, wantError)
			if last > least {
				t.Errorf("labels %v of %v prove more than %d", made, b, least)
			}
		}
	}
	if min(found[true], found[false]) < 500 {
		t.Errorf("only %v labels", found)
	}
}

// R2, P5.3: the greatest galleys, with a page for each item and with pages of any length.
func TestGreatGalleys(t *testing.T) {
	g := galleyOf(slices.Concat(slices.Repeat(lines(1, 2), 99), lines(1, 2))...)
	g.Notes = same(2000, 40)
	for note := range g.Notes {
		g.Items[5*note].Note = note
	}
	if _, _, _, e := page.Best(g, api.PageRules{Height: 2000}); e != api.ErrNone {
		t.Errorf("Best of notes that are too high: error %d", e)
	}
	g.Notes = same(1998, 40)
	each := api.PageRules{Height: 2000, NoteGap: 1, Widow: 1000000, Orphan: 1000000}
	breaks, _, cost, e := page.Best(g, each)
	if e != api.OK || breaks[len(breaks)-1] != 200 || cost < 1000000 {
		t.Errorf("Best of 200 lines: %v, %d, error %d", breaks, cost, e)
	}
	checkBest(t, book{g, each}, cost)

	alone := galleyOf(slices.Repeat([]api.PageItem{row(2000)}, 200)...)
	breaks, e = page.Greedy(alone, api.PageRules{Height: 2000})
	if e != api.OK || len(breaks) != 200 {
		t.Errorf("Greedy of 200 rows: %v, error %d", breaks, e)
	}
	checkBest(t, book{alone, api.PageRules{Height: 2000}}, 0)
	small := galleyOf(slices.Repeat([]api.PageItem{row(1)}, 200)...)
	checkBest(t, book{small, api.PageRules{Height: 2000}}, 0)
	checkBest(t, book{small, api.PageRules{Height: 199}}, 0)
	checkBest(t, book{galleyOf(append(small.Items[:199:199], heading(199))...), api.PageRules{Height: 200}}, 1)
}
