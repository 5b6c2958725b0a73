package line_test

import (
	"slices"
	"testing"

	"tympan/api"
	"tympan/line"
)

// P3.2: the choice of a task.
func TestChoose(t *testing.T) {
	few := func(thick, thin int) api.LineTask {
		return changed(example(1550), func(t *api.LineTask) { t.Case = []int{1, 1, 1, thick, thin} })
	}
	for _, c := range []struct {
		what string
		task api.LineTask
		want []int
		e    api.Errno
	}{
		{"example 1", example(1550), []int{0, 0, 0, 1, 3}, api.OK},
		{"just enough", few(1, 3), []int{0, 0, 0, 1, 3}, api.OK},
		{"example 2", few(10, 2), nil, api.ErrNone},
		{"no thick ones", few(0, 10), nil, api.ErrNone},
		{"example 3", example(1540), nil, api.ErrNone},
		{"too short for two", example(1220), nil, api.ErrNone},
		{"two thin ones", example(1230), []int{0, 0, 0, 0, 2}, api.OK},
		{"six thick ones", example(2190), []int{0, 0, 0, 6, 0}, api.OK},
		{"too long for six", example(2310), nil, api.ErrNone},
		{"nothing to fill, two gaps", example(990), nil, api.ErrNone},
		// An indent needs its spaces first.
		{"an indent", changed(few(2, 4), func(t *api.LineTask) { t.Indent, t.Measure = []int{4, 3}, 1870 }), []int{0, 0, 0, 1, 3}, api.OK},
		{"an indent of the last one", changed(few(1, 3), func(t *api.LineTask) { t.Indent, t.Measure = []int{4}, 1670 }), nil, api.ErrNone},
		// One word, or none.
		{"one word that fits", filling(0, 1, spaced(100), 9), []int{0, 0}, api.OK},
		{"one word that does not", filling(100, 1, spaced(100), 9), nil, api.ErrNone},
		{"no words", filling(100, 0, spaced(100), 9), nil, api.ErrNone},
		{"no words, an indent", changed(filling(100, 0, spaced(100), 9), func(t *api.LineTask) { t.Indent = []int{1} }), []int{0, 0}, api.OK},
		{"no spaces, one word", filling(0, 1, spaced()), []int{0}, api.OK},
		{"no spaces, two words", filling(0, 2, spaced()), nil, api.ErrNone},
		// As few as possible.
		{"few of 3 instead of many of 1", filling(9, 2, spaced(1, 3), 9, 9), []int{0, 0, 3}, api.OK},
		{"two instead of three", filling(6, 2, spaced(1, 2, 3, 5), 9, 9, 9, 9), []int{0, 0, 0, 2, 0}, api.OK},
		{"as few as gaps", filling(6, 4, spaced(1, 2, 4, 6), 9, 9, 9, 9), []int{0, 0, 3, 0, 0}, api.OK},
		{"the greedy way fails", filling(12, 2, spaced(7, 6, 5, 4), 9, 9, 9, 9), []int{0, 0, 2, 0, 0}, api.OK},
		// Of several ones the first one in the order of the sorts, not of the widths.
		{"1 + 5 or 2 + 4", filling(6, 3, spaced(1, 2, 4, 5), 9, 9, 9, 9), []int{0, 0, 1, 1, 0}, api.OK},
		{"4 + 2 or 5 + 1", filling(6, 3, spaced(5, 4, 2, 1), 9, 9, 9, 9), []int{0, 0, 1, 1, 0}, api.OK},
		{"5 + 1 or 4 + 2", filling(6, 3, spaced(4, 5, 1, 2), 9, 9, 9, 9), []int{0, 0, 1, 1, 0}, api.OK},
		{"equal ones", filling(6, 3, spaced(3, 3), 9, 9), []int{0, 0, 2}, api.OK},
		{"equal ones, one of the last", filling(6, 3, spaced(3, 3), 9, 1), []int{0, 1, 1}, api.OK},
		// Three times as many as gaps, and not one more.
		{"the same three times", filling(3, 2, spaced(1), 9), []int{0, 3}, api.OK},
		{"the same four times", filling(4, 2, spaced(1), 9), nil, api.ErrNone},
		{"87 spaces", filling(87, 30, spaced(1), 87), []int{0, 87}, api.OK},
		{"88 spaces", filling(88, 30, spaced(1), 88), nil, api.ErrNone},
		{"86 of 87", filling(87, 30, spaced(1), 86), nil, api.ErrNone},
		{"a wide space", filling(20000, 2, spaced(20000, 100000), 1, 1), []int{0, 1, 0}, api.OK},
	} {
		l, e := line.Choose(c.task)
		wantList(t, "Choose, "+c.what, l, e, c.want, c.e)
	}
}

// P3.2: the choice is the one of the definition.
func TestChoiceIsBest(t *testing.T) {
	m := newMaker(1)
	choices := 0
	for range 6000 {
		task := m.task()
		r, want := roomOf(task)
		var best []int
		if want == api.OK {
			found := false
			if best, found = fewestOf(task.Fount, r.mosts(task.Fount), r.gaps, 3*r.gaps, r.fill); !found {
				want = api.ErrNone
			} else {
				choices++
			}
		}
		l, e := line.Choose(task)
		if e != want || !slices.Equal(l, best) {
			t.Fatalf("Choose of %v: %v, error %d, want %v, error %d", task, l, e, best, want)
		}
	}
	if choices < 1000 {
		t.Errorf("only %d tasks had a choice", choices)
	}
}

// R2: the greatest tasks are done, with spaces of which much is tried in vain.
func TestGreatTasks(t *testing.T) {
	for _, c := range []struct {
		fill   int
		widths []int
		counts []int
		e      api.Errno
	}{
		{20000, []int{229, 231, 233, 239, 241, 251, 257, 263}, []int{99, 99, 99, 99, 99, 99, 99, 99}, api.OK},
		// Multiples of 3, and one space that makes the rest 1, not 2.
		{17444, []int{87, 78, 564, 333, 96, 144, 546, 55}, []int{99, 99, 99, 99, 99, 99, 99, 1}, api.ErrNone},
		{17444, []int{55, 87, 78, 564, 333, 96, 144, 546}, []int{1, 99, 99, 99, 99, 99, 99, 99}, api.ErrNone},
		{19779, []int{48, 864, 476, 805, 480, 432, 1119, 336}, []int{78, 22, 2, 24, 4, 43, 8, 21}, api.ErrNone},
		{20000, []int{1, 2, 3, 4, 5, 6, 7, 8}, []int{99, 99, 99, 99, 99, 99, 99, 99}, api.ErrNone},
		{696, []int{1, 2, 3, 4, 5, 6, 7, 8}, []int{99, 99, 99, 99, 99, 99, 99, 87}, api.OK},
	} {
		task := filling(c.fill, 30, spaced(c.widths...), c.counts...)
		l, e := line.Choose(task)
		if e != c.e {
			t.Errorf("Choose of %d by %v: %v, error %d, want %d", c.fill, c.widths, l, e, c.e)
		}
		if e == api.OK && (widthOf(task.Fount, rowOf(l)) != c.fill || sum(l) < 29 || sum(l) > 87) {
			t.Errorf("Choose of %d by %v: %v", c.fill, c.widths, l)
		}
	}
}

// rowOf is sorts that have been counted, in a row.
func rowOf(counts []int) []int {
	var row []int
	for sort, n := range counts {
		row = append(row, slices.Repeat([]int{sort}, n)...)
	}
	return row
}

// P3.4: spaces that make a width.
func TestFill(t *testing.T) {
	for _, c := range []struct {
		what   string
		f      api.Fount
		counts []int
		width  int
		want   []int
		e      api.Errno
	}{
		{"440", roman(), []int{10, 10, 10, 10, 10}, 440, []int{0, 0, 0, 1, 2}, api.OK},
		{"100", roman(), []int{10, 10, 10, 10, 10}, 100, nil, api.ErrNone},
		{"nothing", roman(), []int{10, 10, 10, 10, 10}, 0, []int{0, 0, 0, 0, 0}, api.OK},
		{"nothing of nothing", roman(), []int{0, 0, 0, 0, 0}, 0, []int{0, 0, 0, 0, 0}, api.OK},
		{"a letter's width", roman(), []int{10, 10, 10, 10, 10}, 300, nil, api.ErrNone},
		{"600: three thick ones, not five thin ones", roman(), []int{10, 10, 10, 10, 10}, 600, []int{0, 0, 0, 3, 0}, api.OK},
		{"600 with two thick ones", roman(), []int{10, 10, 10, 2, 10}, 600, []int{0, 0, 0, 0, 5}, api.OK},
		{"600 with four thin ones", roman(), []int{10, 10, 10, 2, 4}, 600, nil, api.ErrNone},
		{"twelve", spaced(5), []int{0, 13}, 60, []int{0, 12}, api.OK},
		{"thirteen", spaced(5), []int{0, 13}, 65, nil, api.ErrNone},
		{"the first one of several", spaced(5, 4, 2, 1), []int{0, 9, 9, 9, 9}, 6, []int{0, 0, 1, 1, 0}, api.OK},
		{"the last one of equal ones", spaced(5, 5), []int{0, 9, 9}, 15, []int{0, 0, 3}, api.OK},
		{"20000", spaced(20000), []int{0, 1}, 20000, []int{0, 1}, api.OK},
		{"eight kinds", spaced(1, 2, 3, 4, 5, 6, 7, 8), []int{0, 1, 1, 1, 1, 1, 1, 1, 1}, 36, []int{0, 1, 1, 1, 1, 1, 1, 1, 1}, api.OK},
		{"no spaces, nothing", spaced(), []int{7}, 0, []int{0}, api.OK},
		{"no spaces", spaced(), []int{7}, 1, nil, api.ErrNone},
		// Errors, each one ahead of later ones.
		{"20001", spaced(20001), []int{0, 1}, 20001, nil, api.ErrRange},
		{"-1", roman(), []int{10, 10, 10, 10, 10}, -1, nil, api.ErrRange},
		{"a case of four", roman(), []int{-1, 10, 10, 10}, -1, nil, api.ErrShape},
		{"a case with -1", roman(), []int{10, 10, 10, 10, -1}, -2, nil, api.ErrRange},
		{"nine kinds", spaced(1, 2, 3, 4, 5, 6, 7, 8, 9), nil, -1, nil, api.ErrLarge},
	} {
		l, e := line.Fill(c.f, c.counts, c.width)
		wantList(t, "Fill, "+c.what, l, e, c.want, c.e)
	}
}

// P3.4: the fill is the one of the definition.
func TestFillIsBest(t *testing.T) {
	m := newMaker(2)
	for range 2000 {
		task := m.task()
		f, width := task.Fount, m.Intn(80)
		spaces := make([]int, len(f.Sorts))
		for i := range spaces {
			if isSpace(f, i) {
				spaces[i] = task.Case[i]
			}
		}
		best, found := fewestOf(f, spaces, 0, 12, width)
		want := api.OK
		if !found {
			want = api.ErrNone
		}
		if l, e := line.Fill(f, task.Case, width); e != want || !slices.Equal(l, best) {
			t.Fatalf("Fill of %v, %v, %d: %v, error %d, want %v, error %d", f, task.Case, width, l, e, best, want)
		}
	}
}

// P3.8: with a richer case there is a choice, too, and not one with more spaces.
func TestRicherCases(t *testing.T) {
	m := newMaker(3)
	for range 3000 {
		task := m.task()
		poor, e := line.Choose(task)
		if e != api.OK {
			continue
		}
		task.Case = slices.Clone(task.Case)
		for i := range task.Case {
			task.Case[i] += m.Intn(3)
		}
		if rich, e := line.Choose(task); e != api.OK || sum(rich) > sum(poor) {
			t.Errorf("Choose of %v: %v, error %d, with a poorer case %v", task, rich, e, poor)
		}
	}
}
