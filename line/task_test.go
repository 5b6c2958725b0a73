package line_test

import (
	"slices"
	"testing"

	"tympan/api"
	"tympan/line"
)

// wrongTasks has tasks with errors; each one has errors that are listed later, too, where it can.
func wrongTasks() []struct {
	what string
	task api.LineTask
	e    api.Errno
} {
	all := example(0)
	all.Indent = slices.Repeat([]int{9}, 13)
	all.Words = slices.Repeat([][]int{{}}, 31)
	all.Case = nil
	nine := spaced(1, 2, 3, 4, 5, 6, 7, 8, 9)
	type task = api.LineTask
	return []struct {
		what string
		task api.LineTask
		e    api.Errno
	}{
		{"a wrong fount", changed(all, func(t *task) { t.Fount.Body = 145 }), api.ErrRange},
		{"a wrong fount of nine spaces", changed(all, func(t *task) { t.Fount = nine; t.Fount.Name = "9" }), api.ErrName},
		{"nine spaces", changed(all, func(t *task) { t.Fount = nine }), api.ErrLarge},
		{"a case of four", changed(all, func(t *task) { t.Case = []int{1, 1, 1, 1} }), api.ErrShape},
		{"a case with -1", changed(all, func(t *task) { t.Case = []int{1, 1, 1, 1, -1} }), api.ErrRange},
		{"a case with too many", changed(all, func(t *task) { t.Case = []int{1, 1, 1, 1000001, 1} }), api.ErrRange},
		{"an indent of 13", changed(all, func(t *task) { t.Case = []int{1, 1, 1, 1, 1} }), api.ErrLarge},
		{"an indent of no sort", changed(all, func(t *task) { t.Case = example(1).Case; t.Indent = []int{3, 5, 0} }), api.ErrMissing},
		{"an indent of sort -1", changed(all, func(t *task) { t.Case = example(1).Case; t.Indent = []int{-1, 0} }), api.ErrMissing},
		{"an indent with a letter", changed(all, func(t *task) { t.Case = example(1).Case; t.Indent = []int{3, 0, 5} }), api.ErrKind},
		{"an indent with a ligature", changed(all, func(t *task) { t.Case = example(1).Case; t.Indent = []int{2} }), api.ErrKind},
		{"31 words", changed(example(0), func(t *task) { t.Words = slices.Repeat([][]int{{}}, 31) }), api.ErrLarge},
		{"an empty word", changed(example(0), func(t *task) { t.Words = [][]int{{0}, {}, {9}} }), api.ErrShape},
		{"a word of 61", changed(example(0), func(t *task) { t.Words = [][]int{{0}, slices.Repeat([]int{9}, 61), {}} }), api.ErrLarge},
		{"a word of no sort", changed(example(0), func(t *task) { t.Words = [][]int{{0}, {1, 5, 3}, {}} }), api.ErrMissing},
		{"a word of sort -1", changed(example(0), func(t *task) { t.Words = [][]int{{-1, 3}, {}} }), api.ErrMissing},
		{"a word of a great sort", changed(example(0), func(t *task) { t.Words = [][]int{{1<<63 - 1}} }), api.ErrMissing},
		{"a word with a space", changed(example(0), func(t *task) { t.Words = [][]int{{0}, {1, 3, 5}, {}} }), api.ErrKind},
		{"201 sorts", changed(example(0), func(t *task) {
			t.Words = slices.Repeat([][]int{slices.Repeat([]int{0}, 50)}, 4)
			t.Indent = []int{3}
		}), api.ErrLarge},
		{"201 sorts of words", changed(example(0), func(t *task) {
			t.Words = append(slices.Repeat([][]int{slices.Repeat([]int{0}, 50)}, 4), []int{1})
		}), api.ErrLarge},
		{"the measure 0", example(0), api.ErrRange},
		{"the measure -1", example(-1), api.ErrRange},
		{"the measure 1000001", example(1000001), api.ErrRange},
		{"a great measure", example(1<<63 - 1), api.ErrRange},
	}
}

// rightTasks has tasks without errors, at the limits too.
func rightTasks() map[string]api.LineTask {
	return map[string]api.LineTask{
		"example 1":         example(1550),
		"the measure 1":     example(1),
		"the measure 10^6":  example(1000000),
		"nothing":           {Fount: roman(), Case: make([]int, 5), Measure: 1},
		"an empty case":     {Fount: roman(), Case: make([]int, 5), Words: [][]int{{0}}, Measure: 1},
		"eight spaces":      filling(10, 3, spaced(1, 2, 3, 4, 5, 6, 7, 8), 1, 1, 1, 1, 1, 1, 1, 1),
		"no spaces":         filling(0, 1, spaced()),
		"30 words":          filling(10, 30, spaced(1), 30),
		"an indent of 12":   changed(example(1550), func(t *api.LineTask) { t.Indent = slices.Repeat([]int{3, 4}, 6) }),
		"words of 60":       changed(example(1550), func(t *api.LineTask) { t.Words = slices.Repeat([][]int{slices.Repeat([]int{2}, 60)}, 3) }),
		"200 sorts":         changed(example(1), func(t *api.LineTask) { t.Words = slices.Repeat([][]int{slices.Repeat([]int{2}, 50)}, 4) }),
		"a case of 1000000": changed(example(1), func(t *api.LineTask) { t.Case = slices.Repeat([]int{1000000}, 5) }),
		"188 and 12 sorts": changed(example(1), func(t *api.LineTask) {
			t.Words = slices.Repeat([][]int{slices.Repeat([]int{1}, 47)}, 4)
			t.Indent = slices.Repeat([]int{3}, 12)
		}),
	}
}

// P3.1: what is a task.
func TestCheckTask(t *testing.T) {
	for what, task := range rightTasks() {
		if e := line.CheckTask(task); e != api.OK {
			t.Errorf("CheckTask of %s: %d", what, e)
		}
	}
	for _, c := range wrongTasks() {
		if e := line.CheckTask(c.task); e != c.e {
			t.Errorf("CheckTask of %s: %d, want %d", c.what, e, c.e)
		}
	}
	for want, f := range badFounts() {
		if e := line.CheckTask(api.LineTask{Fount: f}); e != want {
			t.Errorf("CheckTask with a wrong fount: %d, want %d", e, want)
		}
	}
}

// P3.1: the fill and the gaps.
func TestFillOf(t *testing.T) {
	indented := func(measure int) api.LineTask {
		return changed(example(measure), func(t *api.LineTask) { t.Indent = []int{3, 4, 4} })
	}
	rare := func(sort, count, measure int) api.LineTask {
		task := indented(measure)
		task.Case[sort] = count
		return task
	}
	for _, c := range []struct {
		what       string
		task       api.LineTask
		fill, gaps int
		e          api.Errno
	}{
		{"example 1", example(1550), 560, 2, api.OK},
		{"nothing to fill", example(990), 0, 2, api.OK},
		{"an indent", indented(1550), 120, 2, api.OK},
		{"one word", changed(example(400), func(t *api.LineTask) { t.Words = [][]int{{0}} }), 100, 0, api.OK},
		{"no words", changed(example(400), func(t *api.LineTask) { t.Words = nil }), 400, 0, api.OK},
		{"30 words", filling(77, 30, spaced(1), 1), 77, 29, api.OK},
		{"a case that just suffices", rare(4, 2, 1430), 0, 2, api.OK},
		{"the fill -1", example(989), 0, 0, api.ErrBreak},
		{"the fill -1 with an indent", indented(1429), 0, 0, api.ErrBreak},
		{"the fill 20000", example(20990), 20000, 2, api.OK},
		{"the fill 20001", example(20991), 0, 0, api.ErrLarge},
		{"a great fill", example(1000000), 0, 0, api.ErrLarge},
		{"a space too few", rare(4, 1, 1), 0, 0, api.ErrStock},
		{"a letter too few", rare(0, 0, 1000000), 0, 0, api.ErrStock},
	} {
		if fill, gaps, e := line.FillOf(c.task); fill != c.fill || gaps != c.gaps || e != c.e {
			t.Errorf("FillOf, %s: %d, %d, error %d, want %d, %d, error %d", c.what, fill, gaps, e, c.fill, c.gaps, c.e)
		}
	}
}

// P3.1 to P3.4: the errors of a task, and of its fill, in all functions that take one.
func TestErrorsOfTasks(t *testing.T) {
	line1 := lineOf(1550, 0, 3, 4, 1, 4, 4, 2)
	calls := map[string]func(t api.LineTask) ([]any, api.Errno){
		"FillOf":  func(t api.LineTask) ([]any, api.Errno) { a, b, e := line.FillOf(t); return results(e, a, b) },
		"Choose":  func(t api.LineTask) ([]any, api.Errno) { r, e := line.Choose(t); return results(e, r) },
		"Justify": func(t api.LineTask) ([]any, api.Errno) { r, e := line.Justify(t); return results(e, r) },
		"Ways":    func(t api.LineTask) ([]any, api.Errno) { r, e := line.Ways(t); return results(e, r) },
		"Refuse":  func(t api.LineTask) ([]any, api.Errno) { r, e := line.Refuse(t); return results(e, r) },
		"CheckRefusal": func(t api.LineTask) ([]any, api.Errno) {
			r, e := line.CheckRefusal(t, nil)
			return results(e, r)
		},
		"Ragged": func(t api.LineTask) ([]any, api.Errno) {
			r, e := line.Ragged(t, api.LineRagged{Gap: -1, Side: -1})
			return results(e, r)
		},
	}
	wrong := wrongTasks()
	for _, c := range wrong {
		if e := line.CheckLine(c.task, lineOf(0, 9)); e != c.e {
			t.Errorf("CheckLine of %s: %d, want %d", c.what, e, c.e)
		}
		if l, e := line.LeftOf(c.task, line1); e != c.e || len(l) != 0 {
			t.Errorf("LeftOf of %s: %v, %d, want %d", c.what, l, e, c.e)
		}
	}
	for _, c := range []struct {
		what string
		task api.LineTask
		e    api.Errno
	}{
		{"the fill -1", example(989), api.ErrBreak},
		{"the fill 20001", example(20991), api.ErrLarge},
		{"too few letters", changed(example(989), func(t *api.LineTask) { t.Case = []int{9, 9, 0, 9, 9} }), api.ErrStock},
	} {
		wrong = append(wrong, c)
	}
	for name, do := range calls {
		for _, c := range wrong {
			if r, e := do(c.task); e != c.e || !isZero(r) {
				t.Errorf("%s of %s: %v, error %d, want %d", name, c.what, r, e, c.e)
			}
		}
	}
}
