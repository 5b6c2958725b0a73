package paragraph_test

import (
	"slices"
	"testing"

	"tympan/api"
	"tympan/paragraph"
)

// checkBest fails the test if Best of a paragraph, whose least demerits are known (most: none), is
// not right.
func checkBest(t *testing.T, x text, want int) {
	t.Helper()
	breaks, labels, d, e := paragraph.Best(x.f, x.r, x.words)
	last, labelsError := paragraph.CheckLabels(x.f, x.r, x.words, labels)
	if labelsError != api.OK || last != want || len(labels) == 0 || labels[len(labels)-1] != want {
		t.Errorf("Best of %v: labels %v, their check %d, error %d", x, labels, last, labelsError)
	}
	if want == most {
		if e != api.ErrNone || len(breaks) != 0 || d != 0 {
			t.Errorf("Best of %v: %v, %d, error %d, want none", x, breaks, d, e)
		}
		return
	}
	if e != api.OK || d != want {
		t.Errorf("Best of %v: %v, %d, error %d, want %d", x, breaks, d, e, want)
	}
	d, e = paragraph.CheckBreaks(x.f, x.r, x.words, breaks)
	wantNumber(t, "CheckBreaks of Best", d, e, want, api.OK)
}

// P4.3: the examples, and paragraphs without words or without breaks.
func TestBest(t *testing.T) {
	for _, c := range []struct {
		what   string
		r      api.ParagraphRules
		words  []api.ParagraphWord
		breaks []int
		d      int
	}{
		{"example 1", rules(), five(), []int{3, 5}, 2500},
		{"example 2", rules(), four(), []int{3, 5}, 50},
		{"one line", rules(), five()[:2], []int{2}, 0},
		{"one narrow line", rules(), four()[2:], []int{3}, 0},
		{"no words", rules(), nil, nil, 0},
		{"no words, an indent", changed(rules(), func(r *api.ParagraphRules) { r.Measure, r.Indent = 1, 20000 }), nil, nil, 0},
		{"no room", changed(rules(), func(r *api.ParagraphRules) { r.Measure = 299 }), five(), nil, most},
		{"too much room", changed(rules(), func(r *api.ParagraphRules) { r.Measure = 1000000 }), five(), nil, most},
		{"a line each", changed(rules(), func(r *api.ParagraphRules) { r.Measure = 300 }), five(), []int{1, 2, 3, 4, 5}, 0},
	} {
		breaks, _, _, e := paragraph.Best(roman(), c.r, c.words)
		want := api.OK
		if c.d == most {
			want = api.ErrNone
		}
		wantList(t, "Best, "+c.what, breaks, e, c.breaks, want)
		checkBest(t, text{roman(), c.r, c.words}, c.d)
	}
}

// P4.3: breaks, and what is wrong with them.
func TestCheckBreaks(t *testing.T) {
	thin := changed(rules(), func(r *api.ParagraphRules) { r.Measure = 1140 })
	for _, c := range []struct {
		what   string
		r      api.ParagraphRules
		words  []api.ParagraphWord
		breaks []int
		want   int
		e      api.Errno
	}{
		{"example 1", rules(), five(), []int{3, 5}, 2500, api.OK},
		{"example 2", rules(), four(), []int{3, 5}, 50, api.OK},
		{"example 2, not the best ones", rules(), append(four(), word(0)), []int{4, 6}, 0, api.ErrBreak},
		{"three lines", thin, repeated(word(0), 7), []int{3, 6, 7}, 12800, api.OK},
		{"no words", rules(), nil, nil, 0, api.OK},
		{"no words, the place 0", rules(), nil, []int{0}, 0, api.ErrOrder},
		{"no words, the place 1", rules(), nil, []int{1}, 0, api.ErrMissing},
		// Errors, each one ahead of later ones.
		{"no place 6", rules(), five(), []int{2, 6, 1}, 0, api.ErrMissing},
		{"no place -1", rules(), five(), []int{2, -1}, 0, api.ErrMissing},
		{"great places", rules(), five(), []int{1<<63 - 1, 0}, 0, api.ErrMissing},
		{"the place 0", rules(), five(), []int{0, 9}, 0, api.ErrOrder},
		{"a place twice", rules(), five(), []int{2, 2, 9}, 0, api.ErrOrder},
		{"a place that is less", rules(), five(), []int{3, 2, 9}, 0, api.ErrOrder},
		{"behind the last place", rules(), five(), []int{5, 5}, 0, api.ErrOrder},
		{"no breaks", rules(), five(), nil, 0, api.ErrShape},
		{"not to the end", rules(), five(), []int{2, 4}, 0, api.ErrShape},
		{"a first line that is not allowed", rules(), five(), []int{2, 5}, 0, api.ErrBreak},
		{"a last line that is not allowed", changed(rules(), func(r *api.ParagraphRules) { r.Measure = 800 }), repeated(word(0), 5), []int{2, 5}, 0, api.ErrBreak},
		{"a line between that is not allowed", rules(), repeated(word(0), 10), []int{3, 5, 8, 10}, 0, api.ErrBreak},
	} {
		d, e := paragraph.CheckBreaks(roman(), c.r, c.words, c.breaks)
		wantNumber(t, "CheckBreaks, "+c.what, d, e, c.want, c.e)
	}
}

// P4.3: labels, and what is wrong with them.
func TestCheckLabels(t *testing.T) {
	for _, c := range []struct {
		what   string
		words  []api.ParagraphWord
		labels []int
		want   int
		e      api.Errno
	}{
		{"example 1", five(), []int{0, most, most, 2500, most, 2500}, 2500, api.OK},
		{"lesser ones", five(), []int{0, 0, 0, 0, 0, 0}, 0, api.OK},
		{"lesser ones at last", five(), []int{0, 1, 2, 2500, 4, 1}, 1, api.OK},
		{"no words", nil, []int{0}, 0, api.OK},
		{"one that is too great", five(), []int{0, most, most, 2501, most, 2500}, 0, api.ErrProof},
		{"the last one is too great", five(), []int{0, most, most, 2500, most, 2501}, 0, api.ErrProof},
		{"the last one is too great for the one before", five(), []int{0, most, most, 2500, 2499, 2500}, 0, api.ErrProof},
		{"the first one is not 0", five(), []int{1, 1, 1, 1, 1, 1}, 0, api.ErrProof},
		{"no words, not 0", nil, []int{1}, 0, api.ErrProof},
		// Errors, each one ahead of later ones.
		{"too few", five(), []int{-1, 0, 0, 0, 0}, 0, api.ErrShape},
		{"too many", five(), []int{-1, 0, 0, 0, 0, 0, 0}, 0, api.ErrShape},
		{"no words, no labels", nil, nil, 0, api.ErrShape},
		{"the label -1", five(), []int{9, 0, 0, 0, -1, 0}, 0, api.ErrRange},
		{"a label above the most", five(), []int{9, 0, 0, 0, 0, most + 1}, 0, api.ErrRange},
		{"a great label", five(), []int{0, 1<<63 - 1, 0, 0, 0, 0}, 0, api.ErrRange},
	} {
		last, e := paragraph.CheckLabels(roman(), rules(), c.words, c.labels)
		wantNumber(t, "CheckLabels, "+c.what, last, e, c.want, c.e)
	}
}

// P4.4: the best breaks with a number of lines.
func TestBestIn(t *testing.T) {
	type rule = api.ParagraphRules
	wide := changed(rules(), func(r *rule) { r.Least, r.Most = 1, 10000 })
	for _, c := range []struct {
		what   string
		r      api.ParagraphRules
		words  []api.ParagraphWord
		lines  int
		breaks []int
		d      int
		e      api.Errno
	}{
		{"example 4", rules(), four(), 1, nil, 0, api.ErrNone},
		{"example 2", rules(), four(), 2, []int{3, 5}, 50, api.OK},
		{"three lines", rules(), four(), 3, nil, 0, api.ErrNone},
		{"example 1 in two", rules(), five(), 2, []int{3, 5}, 2500, api.OK},
		{"five in three", wide, five(), 3, []int{2, 4, 5}, 720000, api.OK},
		{"five in two", wide, five(), 2, []int{3, 5}, 2500, api.OK},
		{"five in one", changed(wide, func(r *rule) { r.Measure = 1504 }), five(), 1, []int{5}, 199 * 199, api.OK},
		{"no words, no lines", rules(), nil, 0, nil, 0, api.OK},
		{"no words, one line", rules(), nil, 1, nil, 0, api.ErrNone},
		{"no lines", rules(), five(), 0, nil, 0, api.ErrNone},
		{"300 lines", rules(), five(), 300, nil, 0, api.ErrNone},
		{"-1 lines", rules(), five(), -1, nil, 0, api.ErrRange},
		{"301 lines", rules(), nil, 301, nil, 0, api.ErrRange},
		{"many lines", rules(), five(), 1<<63 - 1, nil, 0, api.ErrRange},
	} {
		breaks, d, e := paragraph.BestIn(roman(), c.r, c.words, c.lines)
		wantList(t, "BestIn, "+c.what, breaks, e, c.breaks, c.e)
		wantNumber(t, "BestIn, "+c.what, d, e, c.d, c.e)
	}
}

// P4.4: the fewest lines, and those that end as late as possible.
func TestFewestAndGreedy(t *testing.T) {
	type rule = api.ParagraphRules
	none := changed(rules(), func(r *rule) { r.Measure = 299 })
	// The first line may have three words or two, but behind three there is no line.
	two := changed(rules(), func(r *rule) { r.Measure, r.Most = 1140, 600 })
	for _, c := range []struct {
		what   string
		r      api.ParagraphRules
		words  []api.ParagraphWord
		fewest int
		e      api.Errno
		greedy []int
		e2     api.Errno
	}{
		{"example 1", rules(), five(), 2, api.OK, []int{3, 5}, api.OK},
		{"example 2", rules(), four(), 2, api.OK, []int{3, 5}, api.OK},
		{"no words", rules(), nil, 0, api.OK, nil, api.OK},
		{"one line", rules(), five()[:3], 1, api.OK, []int{3}, api.OK},
		{"no first line", none, five(), 0, api.ErrNone, nil, api.ErrNone},
		{"no second line", changed(rules(), func(r *rule) { r.Measure = 1500 }), []api.ParagraphWord{word(0), word(0), word(0), word(0, 0, 0, 0, 0, 0)}, 0, api.ErrNone, nil, api.ErrNone},
		{"the longest line leads nowhere", two, []api.ParagraphWord{word(0), word(0), word(0), word(0, 0), word(0, 0)}, 3, api.OK, nil, api.ErrNone},
	} {
		n, e := paragraph.Fewest(roman(), c.r, c.words)
		wantNumber(t, "Fewest, "+c.what, n, e, c.fewest, c.e)
		breaks, e := paragraph.Greedy(roman(), c.r, c.words)
		wantList(t, "Greedy, "+c.what, breaks, e, c.greedy, c.e2)
	}
}

// greedy is the breaks that Greedy finds, as the chapter says it.
func (x text) greedy() ([]int, api.Errno) {
	var breaks []int
	for from := 0; !x.isLast(from); {
		to := len(x.places()) - 1
		for to > from && !x.allowed(from, to) {
			to--
		}
		if to == from {
			return nil, api.ErrNone
		}
		breaks = append(breaks, to)
		from = to
	}
	return breaks, api.OK
}

// P4.3, P4.4, P4.7, P4.9: what is found is the best of all breaks.
func TestMadeParagraphs(t *testing.T) {
	m := newMaker(3)
	found := map[bool]int{}
	for range 1200 {
		x := m.text()
		least := x.least()
		all := slices.Min(least)
		checkBest(t, x, all)
		found[all < most]++
		for lines, want := range append(least, most, most) {
			breaks, d, e := paragraph.BestIn(x.f, x.r, x.words, lines)
			if want == most {
				wantNumber(t, "BestIn of made words", d, e, 0, api.ErrNone)
				continue
			}
			wantNumber(t, "BestIn of made words", d, e, want, api.OK)
			if d, right := x.breaksDemerits(breaks); !right || d != want || len(breaks) != lines {
				t.Errorf("BestIn of %v, %d: %v", x, lines, breaks)
			}
		}
		fewest, e := paragraph.Fewest(x.f, x.r, x.words)
		if all == most {
			wantNumber(t, "Fewest of made words", fewest, e, 0, api.ErrNone)
		} else {
			first := slices.IndexFunc(least, func(d int) bool { return d < most })
			wantNumber(t, "Fewest of made words", fewest, e, first, api.OK)
		}
		want, wantError := x.greedy()
		breaks, e := paragraph.Greedy(x.f, x.r, x.words)
		wantList(t, "Greedy of made words", breaks, e, want, wantError)
	}
	if min(found[true], found[false]) < 200 {
		t.Errorf("only %v paragraphs", found)
	}
}

// P4.3: breaks and labels are right just if the definitions say so.
func TestMadeChecks(t *testing.T) {
	m := newMaker(4)
	rightBreaks, rightLabels := map[bool]int{}, map[bool]int{}
	for range 800 {
		x := m.text()
		x.each(func(breaks []int) {
			want, right := x.breaksDemerits(breaks)
			e2 := api.OK
			if rightBreaks[right]++; !right {
				want, e2 = 0, api.ErrBreak
			}
			d, e := paragraph.CheckBreaks(x.f, x.r, x.words, breaks)
			wantNumber(t, "CheckBreaks of made words", d, e, want, e2)
		})
		_, best, _, _ := paragraph.Best(x.f, x.r, x.words)
		for range 6 {
			labels := slices.Clone(best)
			for i := range labels {
				if m.Intn(4) == 0 {
					labels[i] = min(most, max(0, labels[i]-3+m.Intn(5)))
				}
			}
			want, right := labels[len(labels)-1], x.rightLabels(labels)
			e2 := api.OK
			if rightLabels[right]++; !right {
				want, e2 = 0, api.ErrProof
			}
			d, e := paragraph.CheckLabels(x.f, x.r, x.words, labels)
			wantNumber(t, "CheckLabels of made words", d, e, want, e2)
		}
	}
	if min(rightBreaks[true], rightBreaks[false], rightLabels[true], rightLabels[false]) < 200 {
		t.Errorf("only %v breaks and %v labels", rightBreaks, rightLabels)
	}
}

// R2, P4.4: the greatest paragraphs, with a line for each place, and with lines of any length.
func TestGreatParagraphs(t *testing.T) {
	f := small([]int{1, 2}, 1, 10)
	each := api.ParagraphRules{Measure: 2, Least: 10, Most: 10, Gap: 3, Hyphen: 2, Single: 100000, Double: 100000}
	words := append(repeated(everywhere(append(same(0, 59), 1)...), 4), repeated(word(1), 59)...)
	breaks, d, e := paragraph.BestIn(f, each, words, 299)
	if e != api.OK || len(breaks) != 299 || d != 4*100000+4*58*200000 {
		t.Errorf("BestIn 299 lines: %v, %d, error %d", breaks, d, e)
	}
	if breaks, d, e := paragraph.BestIn(f, each, words, 300); e != api.ErrNone || len(breaks) != 0 || d != 0 {
		t.Errorf("BestIn 300 lines: %v, %d, error %d", breaks, d, e)
	}
	n, e := paragraph.Fewest(f, each, words)
	wantNumber(t, "Fewest of 299 lines", n, e, 299, api.OK)
	greedy, e := paragraph.Greedy(f, each, words)
	wantList(t, "Greedy of 299 lines", greedy, e, breaks, api.OK)
	checkBest(t, text{f, each, words}, d)

	any := api.ParagraphRules{Measure: 10000, Least: 1, Most: 10000, Gap: 3, Hyphen: 2}
	words = repeated(word(0), 200)
	n, e = paragraph.Fewest(f, any, words)
	wantNumber(t, "Fewest of 30 words a line", n, e, 7, api.OK)
	for _, lines := range []int{7, 8, 100} {
		breaks, d, e := paragraph.BestIn(f, any, words, lines)
		d2, e2 := paragraph.CheckBreaks(f, any, words, breaks)
		if e != api.OK || e2 != api.OK || d != d2 || len(breaks) != lines {
			t.Errorf("BestIn %d lines: %v, %d, error %d", lines, breaks, d, e)
		}
	}
}
