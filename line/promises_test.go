package line_test

import (
	"fmt"
	"reflect"
	"slices"
	"testing"

	"tympan/api"
	"tympan/line"
)

// call is a call of a function of the package with a task and a line: its results but for the error,
// and the error.
type call struct {
	name string
	do   func(t api.LineTask, l api.TypeLine) ([]any, api.Errno)
}

// calls has every function that takes a fount, in a task or beside other arguments.
func calls(tree []api.LineNode, spaces []int) []call {
	type task = api.LineTask
	type set = api.TypeLine
	return []call{
		{"CheckTask", func(t task, _ set) ([]any, api.Errno) { return nil, line.CheckTask(t) }},
		{"FillOf", func(t task, _ set) ([]any, api.Errno) { a, b, e := line.FillOf(t); return results(e, a, b) }},
		{"Choose", func(t task, _ set) ([]any, api.Errno) { r, e := line.Choose(t); return results(e, r) }},
		{"Spread", func(t task, _ set) ([]any, api.Errno) { r, e := line.Spread(t.Fount, spaces, 2); return results(e, r) }},
		{"Justify", func(t task, _ set) ([]any, api.Errno) { r, e := line.Justify(t); return results(e, r) }},
		{"CheckLine", func(t task, l set) ([]any, api.Errno) { return nil, line.CheckLine(t, l) }},
		{"GapsOf", func(t task, l set) ([]any, api.Errno) { r, e := line.GapsOf(t.Fount, l); return results(e, r) }},
		{"Ways", func(t task, _ set) ([]any, api.Errno) { r, e := line.Ways(t); return results(e, r) }},
		{"Refuse", func(t task, _ set) ([]any, api.Errno) {
			t.Measure++
			r, e := line.Refuse(t)
			return results(e, r)
		}},
		{"CheckRefusal", func(t task, _ set) ([]any, api.Errno) {
			t.Measure += 10
			r, e := line.CheckRefusal(t, tree)
			return results(e, r)
		}},
		{"Fill", func(t task, _ set) ([]any, api.Errno) { r, e := line.Fill(t.Fount, t.Case, 440); return results(e, r) }},
		{"Ragged", func(t task, _ set) ([]any, api.Errno) {
			r, e := line.Ragged(t, api.LineRagged{Gap: 4, Side: api.LineLeft})
			return results(e, r)
		}},
		{"Ragged to the centre", func(t task, _ set) ([]any, api.Errno) {
			t.Measure = 1590
			r, e := line.Ragged(t, api.LineRagged{Gap: 4, Side: api.LineCentre})
			return results(e, r)
		}},
		{"WordsOf", func(t task, l set) ([]any, api.Errno) { r, e := line.WordsOf(t.Fount, l); return results(e, r) }},
		{"CopyOf", func(t task, l set) ([]any, api.Errno) { r, e := line.CopyOf(t.Fount, l); return results(e, r) }},
		{"LeftOf", func(t task, l set) ([]any, api.Errno) { r, e := line.LeftOf(t, l); return results(e, r) }},
	}
}

// P1: each function tells the errors of its fount first.
func TestErrorsOfFounts(t *testing.T) {
	for _, c := range calls(nil, nil) {
		for want, f := range badFounts() {
			if r, e := c.do(api.LineTask{Fount: f}, api.TypeLine{}); e != want || !isZero(r) {
				t.Errorf("%s with a wrong fount: %v, error %d, want %d", c.name, r, e, want)
			}
		}
	}
}

// spoil writes into all numbers of a value that can be written, up to the capacity of its slices.
func spoil(v reflect.Value) {
	switch v.Kind() {
	case reflect.Slice:
		v = v.Slice(0, v.Cap())
		for i := range v.Len() {
			spoil(v.Index(i))
		}
	case reflect.Struct:
		for i := range v.NumField() {
			spoil(v.Field(i))
		}
	case reflect.Int:
		if v.CanSet() {
			v.SetInt(-7)
		}
	}
}

// R3, R4: no call writes into its arguments, and results share no memory with arguments or with
// the results of other calls.
func TestNothingIsShared(t *testing.T) {
	fresh := func() (api.LineTask, api.TypeLine, []api.LineNode, []int) {
		task := changed(example(1670), func(t *api.LineTask) { t.Indent = []int{4} })
		tree := []api.LineNode{{Kind: api.LineModulus, Modulus: 40, Next: []int{4}}}
		return task, lineOf(1670, 4, 0, 3, 4, 1, 4, 4, 2), tree, []int{0, 0, 0, 1, 3}
	}
	task, l, tree, spaces := fresh()
	was := fmt.Sprint(fresh())
	for _, c := range calls(tree, spaces) {
		first, e := c.do(task, l)
		if e != api.OK {
			t.Errorf("%s: error %d", c.name, e)
		}
		text := fmt.Sprint(first)
		for _, r := range first {
			spoil(reflect.ValueOf(r))
		}
		if second, e := c.do(task, l); e != api.OK || fmt.Sprint(second) != text {
			t.Errorf("%s once more: %v, %d, first %s", c.name, second, e, text)
		}
		if fmt.Sprint(task, l, tree, spaces) != was {
			t.Fatalf("%s has written into its arguments", c.name)
		}
	}
}

// R3: no two slices within a result share memory.
func TestResultsShareNothing(t *testing.T) {
	spread, _ := line.Spread(spaced(1), []int{0, 9}, 4)
	words, _ := line.WordsOf(roman(), lineOf(1, 0, 3, 0, 3, 1, 1))
	tree, _ := line.Refuse(filling(1001, 4, spaced(100, 103), 5, 5))
	var next [][]int
	for _, node := range tree {
		next = append(next, node.Next)
	}
	for _, lists := range [][][]int{spread, words, next} {
		want := make([][]int, len(lists))
		for i, l := range lists {
			want[i] = slices.Clone(l)
		}
		for i, l := range lists {
			lists[i] = append(l, -7)
		}
		for i, l := range lists {
			if !slices.Equal(l[:len(l)-1], want[i]) {
				t.Errorf("%v: one list has written into another one", lists)
			}
			for j := range l {
				l[j] = -7 - i
			}
		}
		for i, l := range lists {
			if slices.ContainsFunc(l, func(n int) bool { return n != -7-i }) {
				t.Errorf("%v: lists share memory", lists)
			}
		}
	}
}
