package line_test

import (
	"fmt"
	"slices"
	"testing"

	"tympan/api"
	"tympan/line"
)

// P3.2: spaces are spread into gaps.
func TestSpread(t *testing.T) {
	for _, c := range []struct {
		what   string
		f      api.Fount
		counts []int
		gaps   int
		want   [][]int
	}{
		{"example 1", roman(), []int{0, 0, 0, 1, 3}, 2, [][]int{{3, 4}, {4, 4}}},
		{"no gaps", roman(), []int{0, 0, 0, 0, 0}, 0, nil},
		{"one each", roman(), []int{0, 0, 0, 1, 2}, 3, [][]int{{3}, {4}, {4}}},
		{"three in one", roman(), []int{0, 0, 0, 1, 2}, 1, [][]int{{3, 4, 4}}},
		{"of equal widths those with the lesser number first", spaced(5, 7, 5), []int{0, 2, 1, 2}, 2, [][]int{{2, 3}, {1, 1, 3}}},
		{"the widest ones first, whatever their numbers", spaced(1, 2, 3), []int{0, 1, 1, 1}, 2, [][]int{{3}, {2, 1}}},
		{"of equal gaps the first one", spaced(4, 2), []int{0, 2, 2}, 2, [][]int{{1, 2}, {1, 2}}},
		{"not into a narrow gap that is full", spaced(100, 1), []int{0, 1, 5}, 2, [][]int{{1, 2, 2}, {2, 2, 2}}},
		{"all full", spaced(9), []int{0, 87}, 29, slices.Repeat([][]int{{1, 1, 1}}, 29)},
		{"more than eight kinds", spaced(1, 2, 3, 4, 5, 6, 7, 8, 9), []int{0, 1, 0, 0, 0, 0, 0, 0, 0, 1}, 2, [][]int{{9}, {1}}},
		{"wide ones", spaced(100000), []int{0, 40}, 20, slices.Repeat([][]int{{1, 1}}, 20)},
	} {
		if l, e := line.Spread(c.f, c.counts, c.gaps); e != api.OK || !slices.EqualFunc(l, c.want, slices.Equal[[]int]) {
			t.Errorf("Spread, %s: %v, error %d, want %v", c.what, l, e, c.want)
		}
	}
}

func TestSpreadErrors(t *testing.T) {
	for _, c := range []struct {
		what   string
		counts []int
		gaps   int
		e      api.Errno
	}{
		{"four counts", []int{1, -1, 0, 0}, -1, api.ErrShape},
		{"a count of -1", []int{1, 0, 0, 0, -1}, -1, api.ErrRange},
		{"a great count", []int{1, 0, 0, 0, 1000001}, -1, api.ErrRange},
		{"a letter", []int{0, 1, 0, 2, 0}, -1, api.ErrKind},
		{"a ligature", []int{0, 0, 1, 0, 0}, 30, api.ErrKind},
		{"-1 gaps", []int{0, 0, 0, 2, 0}, -1, api.ErrRange},
		{"30 gaps", []int{0, 0, 0, 30, 0}, 30, api.ErrRange},
		{"a great number of gaps", []int{0, 0, 0, 1, 0}, 1<<63 - 1, api.ErrRange},
		{"too few", []int{0, 0, 0, 1, 0}, 2, api.ErrShape},
		{"too many", []int{0, 0, 0, 4, 3}, 2, api.ErrShape},
		{"far too many", []int{0, 0, 0, 1000000, 1000000}, 29, api.ErrShape},
		{"one for no gap", []int{0, 0, 0, 0, 1}, 0, api.ErrShape},
		{"none for one gap", []int{0, 0, 0, 0, 0}, 1, api.ErrShape},
	} {
		if l, e := line.Spread(roman(), c.counts, c.gaps); e != c.e || len(l) != 0 {
			t.Errorf("Spread, %s: %v, error %d, want %d", c.what, l, e, c.e)
		}
	}
	for want, f := range badFounts() {
		if l, e := line.Spread(f, nil, -1); e != want || len(l) != 0 {
			t.Errorf("Spread with a wrong fount: %v, error %d, want %d", l, e, want)
		}
	}
}

// P3.8: Spread loses no space, no gap is without one, and gaps are even.
func TestSpreadIsEven(t *testing.T) {
	m := newMaker(4)
	for range 3000 {
		f := spaced(1+m.Intn(9), 1+m.Intn(9), 1+m.Intn(9), 1+m.Intn(30))
		gaps := 1 + m.Intn(6)
		counts := make([]int, 5)
		for range gaps + m.Intn(2*gaps+1) {
			counts[1+m.Intn(4)]++
		}
		l, e := line.Spread(f, counts, gaps)
		if e != api.OK || len(l) != gaps {
			t.Fatalf("Spread of %v into %d: %v, error %d", counts, gaps, l, e)
		}
		checkSpread(t, f, counts, l)
	}
}

func checkSpread(t *testing.T, f api.Fount, counts []int, gaps [][]int) {
	t.Helper()
	all := slices.Sorted(slices.Values(slices.Concat(gaps...)))
	if !slices.Equal(all, rowOf(counts)) {
		t.Errorf("Spread of %v: %v", counts, gaps)
	}
	for _, wide := range gaps {
		if len(wide) < 1 || len(wide) > 3 {
			t.Errorf("Spread of %v: %v: a gap of %v", counts, gaps, wide)
			continue
		}
		last := f.Sorts[wide[len(wide)-1]].Width
		for _, narrow := range gaps {
			if len(wide) < 3 && len(narrow) < 3 && widthOf(f, wide)-last > widthOf(f, narrow) {
				t.Errorf("Spread of %v: %v: %v is much wider than %v", counts, gaps, wide, narrow)
			}
		}
	}
}

// P3.2: lines are justified.
func TestJustify(t *testing.T) {
	indented := changed(example(1870), func(t *api.LineTask) { t.Indent = []int{4, 3} })
	long := func(measure int) api.LineTask {
		return changed(example(measure), func(t *api.LineTask) { t.Words = [][]int{{0, 1}, {2, 2, 1}} })
	}
	for _, c := range []struct {
		what string
		task api.LineTask
		want string
		e    api.Errno
	}{
		{"example 1", example(1550), "1550 0 3 4 1 4 4 2", api.OK},
		{"an indent", indented, "1870 4 3 0 3 4 1 4 4 2", api.OK},
		{"words of several sorts", long(1920), "1920 0 1 4 4 2 2 1", api.OK},
		{"words of several sorts, no choice", long(1900), "", api.ErrNone},
		{"one word", filling(0, 1, spaced(100), 9), "300 0", api.OK},
		{"no words", changed(filling(100, 0, spaced(100), 9), func(t *api.LineTask) { t.Indent = []int{1} }), "100 1", api.OK},
		{"no choice", example(1540), "", api.ErrNone},
	} {
		l, e := line.Justify(c.task)
		wantLine(t, "Justify, "+c.what, l, e, c.want, c.e)
	}
	// As many sorts as a line of a task can have.
	words := append(slices.Repeat([][]int{{0, 0, 0, 0, 0, 0}}, 29), slices.Repeat([]int{0}, 14))
	most := api.LineTask{Fount: spaced(20), Case: []int{188, 99}, Indent: slices.Repeat([]int{1}, 12), Words: words, Measure: 188*300 + 99*20}
	l, e := line.Justify(most)
	if e != api.OK || len(l.Sorts) != 287 || line.CheckLine(most, l) != api.OK {
		t.Errorf("Justify of 200 sorts: %v, error %d", l, e)
	}
	left, e := line.LeftOf(most, l)
	wantList(t, "LeftOf of all", left, e, []int{0, 0}, api.OK)
}

// P3.2: lines that are accepted for the task of example 1, and others.
func TestCheckLine(t *testing.T) {
	poor := changed(example(1550), func(t *api.LineTask) { t.Case = []int{1, 1, 1, 1, 3} })
	indented := changed(example(1870), func(t *api.LineTask) { t.Indent = []int{4, 3} })
	empty := changed(example(200), func(t *api.LineTask) { t.Words = nil })
	for _, c := range []struct {
		what string
		task api.LineTask
		line api.TypeLine
		e    api.Errno
	}{
		{"example 1", example(1550), lineOf(1550, 0, 3, 4, 1, 4, 4, 2), api.OK},
		{"spread otherwise", example(1550), lineOf(1550, 0, 4, 4, 4, 1, 3, 2), api.OK},
		{"just enough", poor, lineOf(1550, 0, 4, 3, 4, 1, 4, 2), api.OK},
		{"an indent", indented, lineOf(1870, 4, 3, 0, 3, 4, 1, 4, 4, 2), api.OK},
		{"no words", changed(empty, func(t *api.LineTask) { t.Indent = []int{3} }), lineOf(200, 3), api.OK},
		// Of the line itself.
		{"the measure 0", example(1550), lineOf(0, slices.Repeat([]int{9}, 301)...), api.ErrRange},
		{"the measure 1000001", example(1550), lineOf(1000001, slices.Repeat([]int{9}, 301)...), api.ErrRange},
		{"301 sorts", example(1550), lineOf(1, slices.Repeat([]int{9}, 301)...), api.ErrLarge},
		{"no such sort", example(1550), lineOf(1, 0, 3, 5), api.ErrMissing},
		{"the sort -1", example(1550), lineOf(1, -1), api.ErrMissing},
		{"another measure", example(1550), lineOf(1549), api.ErrUnit},
		// Of its shape.
		{"no sorts", example(1550), lineOf(1550), api.ErrShape},
		{"300 sorts", example(1550), lineOf(1550, slices.Repeat([]int{0}, 300)...), api.ErrShape},
		{"a word too few", example(1550), lineOf(1550, 0, 3, 1), api.ErrShape},
		{"a word too many", example(1550), lineOf(1550, 0, 3, 1, 3, 2, 3, 0), api.ErrShape},
		{"another word", example(1550), lineOf(1550, 0, 3, 4, 1, 4, 4, 0), api.ErrShape},
		{"words in another order", example(1550), lineOf(1550, 1, 3, 4, 0, 4, 4, 2), api.ErrShape},
		{"words without a gap", example(1550), lineOf(1550, 0, 1, 4, 4, 2), api.ErrShape},
		{"four spaces", example(1550), lineOf(1550, 0, 4, 4, 4, 4, 1, 3, 2), api.ErrShape},
		{"spaces at the beginning", example(1550), lineOf(1550, 4, 0, 3, 1, 4, 4, 2), api.ErrShape},
		{"spaces at the end", example(1550), lineOf(1550, 0, 3, 4, 1, 4, 2, 4), api.ErrShape},
		{"no indent", indented, lineOf(1870, 0, 3, 4, 1, 4, 4, 2), api.ErrShape},
		{"another indent", indented, lineOf(1870, 3, 4, 0, 3, 4, 1, 4, 4, 2), api.ErrShape},
		{"half of the indent", indented, lineOf(1870, 4), api.ErrShape},
		{"more than the indent", indented, lineOf(1870, 4, 3, 4, 0, 3, 4, 1, 4, 2), api.ErrShape},
		{"the indent alone", indented, lineOf(1870, 4, 3), api.ErrShape},
		{"spaces for no words", empty, lineOf(200, 3), api.ErrShape},
		{"a word for no words", empty, lineOf(200, 0), api.ErrShape},
		// Of the case, and of the sum.
		{"a space too many", poor, lineOf(1550, 0, 3, 3, 1, 4, 4, 4, 2), api.ErrStock},
		{"a letter too few", changed(poor, func(t *api.LineTask) { t.Case = []int{1, 0, 1, 1, 3} }), lineOf(1550, 0, 3, 1, 4, 2), api.ErrStock},
		{"too narrow", poor, lineOf(1550, 0, 3, 4, 1, 4, 2), api.ErrSum},
		{"too wide", example(1550), lineOf(1550, 0, 3, 3, 1, 4, 4, 2), api.ErrSum},
		{"no sorts for no words", empty, lineOf(200), api.ErrSum},
	} {
		if e := line.CheckLine(c.task, c.line); e != c.e {
			t.Errorf("CheckLine of %s: %d, want %d", c.what, e, c.e)
		}
		l, e := line.LeftOf(c.task, c.line)
		if e != c.e || c.e != api.OK && len(l) != 0 {
			t.Errorf("LeftOf of %s: %v, %d, want %d", c.what, l, e, c.e)
		}
	}
}

// P3.2: of all short rows of sorts those are accepted that are built as the chapter says.
func TestAllShortLines(t *testing.T) {
	task := api.LineTask{Fount: spaced(100, 200), Case: []int{3, 4, 2}, Indent: []int{2}, Words: [][]int{{0}, {0, 0}}, Measure: 1500}
	shaped := map[string]bool{}
	gaps := []string{}
	for _, a := range []int{1, 2} {
		gaps = append(gaps, fmt.Sprint([]int{a}))
		for _, b := range []int{1, 2} {
			gaps = append(gaps, fmt.Sprint([]int{a, b}))
			for _, c := range []int{1, 2} {
				gaps = append(gaps, fmt.Sprint([]int{a, b, c}))
			}
		}
	}
	for _, gap := range gaps {
		shaped["[2 0 "+gap[1:len(gap)-1]+" 0 0]"] = true
	}
	accepted := 0
	for length := range 8 {
		eachCount(slices.Repeat([]int{2}, length), func(sorts []int) {
			want, need := api.OK, []int{0, 0, 0}
			for _, sort := range sorts {
				need[sort]++
			}
			switch {
			case !shaped[fmt.Sprint(sorts)]:
				want = api.ErrShape
			case need[2] > 2:
				want = api.ErrStock
			case 300*need[0]+100*need[1]+200*need[2] != 1500:
				want = api.ErrSum
			default:
				accepted++
			}
			if e := line.CheckLine(task, lineOf(1500, sorts...)); e != want {
				t.Errorf("CheckLine of %v: %d, want %d", sorts, e, want)
			}
		})
	}
	if accepted != 3 {
		t.Errorf("%d lines were accepted", accepted)
	}
}

// P3.5, P3.9: what a line leaves.
func TestLeftOf(t *testing.T) {
	l, e := line.LeftOf(example(1550), lineOf(1550, 0, 3, 4, 1, 4, 4, 2))
	wantList(t, "LeftOf of example 1", l, e, []int{9, 9, 9, 9, 7}, api.OK)
	l, e = line.LeftOf(filling(0, 1, spaced(100), 0), lineOf(300, 0))
	wantList(t, "LeftOf of all", l, e, []int{0, 0}, api.OK)
}

// P3.6, P3.9: each line that is found is accepted, has the measure, and the words of its task.
func TestJustifiedLines(t *testing.T) {
	m := newMaker(5)
	lines := 0
	for range 3000 {
		task := m.task()
		counts, want := line.Choose(task)
		l, e := line.Justify(task)
		if e != want || e != api.OK && !isZero([]any{l}) {
			t.Fatalf("Justify of %v: %v, error %d, want %d", task, l, e, want)
		}
		if e != api.OK {
			continue
		}
		lines++
		checkWords(t, task, l)
		left, e := line.LeftOf(task, l)
		if e != api.OK {
			t.Fatalf("LeftOf of %v, %v: error %d", task, l, e)
		}
		for _, sort := range l.Sorts {
			left[sort]++
		}
		if !slices.Equal(left, task.Case) {
			t.Errorf("LeftOf of %v, %v, and the line: %v", task, l, left)
		}
		checkGaps(t, task, l, counts)
	}
	if lines < 500 {
		t.Errorf("only %d lines were justified", lines)
	}
}

// checkWords looks at what a justified or ragged line has.
func checkWords(t *testing.T, task api.LineTask, l api.TypeLine) {
	t.Helper()
	if l.Measure != task.Measure || widthOf(task.Fount, l.Sorts) != task.Measure {
		t.Errorf("%v of %v has another measure", l, task)
	}
	words, e := line.WordsOf(task.Fount, l)
	if e != api.OK || !slices.EqualFunc(words, task.Words, slices.Equal[[]int]) {
		t.Errorf("%v of %v has the words %v, %d", l, task, words, e)
	}
	printed := ""
	for i, word := range task.Words {
		if i > 0 {
			printed += " "
		}
		for _, sort := range word {
			printed += task.Fount.Sorts[sort].Text
		}
	}
	if s, e := line.CopyOf(task.Fount, l); e != api.OK || s != printed {
		t.Errorf("%v of %v prints %q, %d, want %q", l, task, s, e, printed)
	}
	text := line.FormatLine(l)
	if back, e := line.ParseLine(text); e != api.OK || textOf(back) != text {
		t.Errorf("ParseLine of %q: %v, %d", text, back, e)
	}
}

// checkGaps looks whether a line of a task has its choice, spread.
func checkGaps(t *testing.T, task api.LineTask, l api.TypeLine, counts []int) {
	t.Helper()
	gaps, e := line.Spread(task.Fount, counts, max(len(task.Words)-1, 0))
	var widths []int
	sorts := slices.Clone(task.Indent)
	for i, word := range task.Words {
		if i > 0 {
			sorts = append(sorts, gaps[i-1]...)
			widths = append(widths, widthOf(task.Fount, gaps[i-1]))
		}
		sorts = append(sorts, word...)
	}
	if e != api.OK || !slices.Equal(l.Sorts, sorts) {
		t.Errorf("%v of %v, want %v", l, task, sorts)
	}
	of, e := line.GapsOf(task.Fount, l)
	wantList(t, "GapsOf "+textOf(l), of, e, widths, api.OK)
}
