package line_test

import (
	"cmp"
	"slices"
	"testing"

	"tympan/api"
	"tympan/line"
)

const (
	left   = api.LineLeft
	right  = api.LineRight
	centre = api.LineCentre
)

// P3.4: lines that are set to a side.
func TestRagged(t *testing.T) {
	indented := func(measure int) api.LineTask {
		return changed(example(measure), func(t *api.LineTask) { t.Indent = []int{4, 3} })
	}
	noWords := changed(indented(640), func(t *api.LineTask) { t.Words = nil })
	poor := func(thick, thin, measure int) api.LineTask {
		return changed(example(measure), func(t *api.LineTask) { t.Case = []int{1, 1, 1, thick, thin} })
	}
	for _, c := range []struct {
		what string
		task api.LineTask
		gap  int
		side int
		want string
		e    api.Errno
	}{
		{"example 6, to the left", example(1830), 3, left, "1830 0 3 1 3 2 3 4 4", api.OK},
		{"example 6, to the right", example(1830), 3, right, "1830 3 4 4 0 3 1 3 2", api.OK},
		{"example 6, to the centre", example(1790), 3, centre, "1790 3 0 3 1 3 2 3", api.OK},
		{"thin gaps", example(1550), 4, left, "1550 0 4 1 4 2 3 4", api.OK},
		{"no rest, to the left", example(1390), 3, left, "1390 0 3 1 3 2", api.OK},
		{"no rest, to the right", example(1390), 3, right, "1390 0 3 1 3 2", api.OK},
		{"no rest, to the centre", example(1390), 3, centre, "1390 0 3 1 3 2", api.OK},
		{"an indent, to the left", indented(2150), 3, left, "2150 4 3 0 3 1 3 2 3 4 4", api.OK},
		{"an indent, to the right", indented(2150), 3, right, "2150 4 3 3 4 4 0 3 1 3 2", api.OK},
		{"an indent, to the centre", indented(2110), 3, centre, "2110 4 3 3 0 3 1 3 2 3", api.OK},
		{"no words, to the left", noWords, 3, left, "640 4 3 3 4", api.OK},
		{"no words, to the right", noWords, 3, right, "640 4 3 3 4", api.OK},
		{"no words, to the centre", changed(noWords, func(t *api.LineTask) { t.Measure = 720 }), 3, centre, "720 4 3 3 3", api.OK},
		{"no words, nothing", changed(noWords, func(t *api.LineTask) { t.Measure = 320 }), 3, centre, "320 4 3", api.OK},
		{"one word, none of the gap", filling(10, 1, spaced(5, 7), 2, 0), 2, left, "310 0 1 1", api.OK},
		{"of equal widths those with the lesser number first", filling(27, 2, spaced(5, 7, 5), 2, 1, 2), 3, right, "627 2 1 1 3 0 3 0", api.OK},
		// What the case has left without words and gaps.
		{"what is just enough", poor(3, 2, 1830), 3, left, "1830 0 3 1 3 2 3 4 4", api.OK},
		{"a thick one too few for the rest", poor(2, 2, 1830), 3, left, "", api.ErrNone},
		{"a thin one too few for the rest", poor(3, 1, 1830), 3, right, "", api.ErrNone},
		{"half of four", poor(4, 0, 1790), 3, centre, "1790 3 0 3 1 3 2 3", api.OK},
		{"half of three", poor(5, 0, 2190), 3, centre, "", api.ErrNone},
		{"half of six", poor(6, 0, 2190), 3, centre, "2190 3 3 0 3 1 3 2 3 3", api.OK},
		{"half of one", poor(3, 0, 1790), 3, centre, "", api.ErrNone},
		{"twelve thin ones", poor(2, 12, 1390+12*120), 3, left, "2830 0 3 1 3 2 4 4 4 4 4 4 4 4 4 4 4 4", api.OK},
		{"thirteen thin ones", poor(2, 13, 1390+13*120), 3, left, "", api.ErrNone},
		{"thirteen thin ones at each side", poor(2, 26, 1390+26*120), 3, centre, "", api.ErrNone},
		// Errors, each one ahead of later ones.
		{"no such sort", poor(0, 0, 1000), 5, 3, "", api.ErrMissing},
		{"the sort -1", example(1000), -1, -1, "", api.ErrMissing},
		{"a letter", poor(0, 0, 1000), 0, left, "", api.ErrKind},
		{"a side above", poor(0, 0, 1000), 3, 3, "", api.ErrKind},
		{"a side below", poor(0, 0, 1000), 3, -1, "", api.ErrKind},
		{"one of two gaps", poor(1, 9, 1000), 3, left, "", api.ErrStock},
		{"an indent needs one", changed(poor(2, 9, 1000), func(t *api.LineTask) { t.Indent, t.Measure = []int{3}, 1200 }), 3, left, "", api.ErrStock},
		{"the rest -1", example(1389), 3, centre, "", api.ErrBreak},
		{"an odd rest", example(1391), 3, centre, "", api.ErrNone},
		{"a rest that is not filled", example(1490), 3, left, "", api.ErrNone},
		{"a half that is not filled", example(1510), 3, centre, "", api.ErrNone},
	} {
		l, e := line.Ragged(c.task, api.LineRagged{Gap: c.gap, Side: c.side})
		wantLine(t, "Ragged, "+c.what, l, e, c.want, c.e)
	}
}

// ragged is a ragged line as the chapter defines it, of a task without errors.
func ragged(t api.LineTask, r api.LineRagged) ([]int, api.Errno) {
	room, e := roomOf(t)
	if e != api.OK {
		return nil, e
	}
	room.left[r.Gap] -= room.gaps
	rest := room.fill - room.gaps*t.Fount.Sorts[r.Gap].Width
	switch {
	case room.left[r.Gap] < 0:
		return nil, api.ErrStock
	case rest < 0:
		return nil, api.ErrBreak
	case r.Side == centre && rest%2 == 1:
		return nil, api.ErrNone
	case r.Side == centre:
		rest /= 2
		for i := range room.left {
			room.left[i] /= 2
		}
	}
	for i := range room.left {
		if !isSpace(t.Fount, i) {
			room.left[i] = 0
		}
	}
	counts, found := fewestOf(t.Fount, room.left, 0, 12, rest)
	if !found {
		return nil, api.ErrNone
	}
	end := rowOf(counts)
	slices.SortStableFunc(end, func(a, b int) int { return cmp.Compare(t.Fount.Sorts[b].Width, t.Fount.Sorts[a].Width) })
	sorts := slices.Clone(t.Indent)
	if r.Side != left {
		sorts = append(sorts, end...)
	}
	for i, word := range t.Words {
		if i > 0 {
			sorts = append(sorts, r.Gap)
		}
		sorts = append(sorts, word...)
	}
	if r.Side != right {
		sorts = append(sorts, end...)
	}
	return sorts, api.OK
}

// P3.4, P3.6: ragged lines are those of the definition; CheckLine accepts those without a rest.
func TestRaggedLines(t *testing.T) {
	m := newMaker(9)
	lines, whole := [3]int{}, 0
	for range 6000 {
		task := m.task()
		r := api.LineRagged{Gap: m.Intn(len(task.Fount.Sorts)), Side: m.Intn(3)}
		if !isSpace(task.Fount, r.Gap) {
			continue
		}
		sorts, want := ragged(task, r)
		l, e := line.Ragged(task, r)
		if e != want || !slices.Equal(l.Sorts, sorts) || e != api.OK && l.Measure != 0 {
			t.Fatalf("Ragged of %v, %v: %v, error %d, want %v, error %d", task, r, l, e, sorts, want)
		}
		if e != api.OK {
			continue
		}
		lines[r.Side]++
		checkWords(t, task, l)
		if len(task.Words) == 0 {
			continue
		}
		rest := len(l.Sorts) - len(task.Indent) - len(slices.Concat(task.Words...)) - len(task.Words) + 1
		if e := line.CheckLine(task, l); (e == api.OK) != (rest == 0) {
			t.Errorf("CheckLine of %v, a line of %v: %d", l, task, e)
		}
		if rest == 0 {
			whole++
		}
	}
	if min(lines[0], lines[1], lines[2], whole) < 50 {
		t.Errorf("only %v lines to the sides, %d without a rest", lines, whole)
	}
}
