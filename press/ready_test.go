package press_test

import (
	"fmt"
	"slices"
	"testing"

	"tympan/api"
	"tympan/press"
)

// exampleTable is the minutes of the chapter's example.
func exampleTable() [][]int {
	return [][]int{{5, 9}, {2, 7}}
}

// wrongTable is a table of minutes with its error.
type wrongTable struct {
	what    string
	minutes [][]int
	e       api.Errno
}

func wrongTables() []wrongTable {
	return []wrongTable{
		{"eight rows", newMaker(1).table(8, 9), api.ErrLarge},
		{"eight empty rows", make([][]int, 8), api.ErrLarge},
		{"an empty row", [][]int{{}}, api.ErrShape},
		{"two numbers in one row", [][]int{{1, 2}}, api.ErrShape},
		{"a short row", [][]int{{1, 2}, {3}}, api.ErrShape},
		{"a long row", [][]int{{1, 2}, {3, 4, 5}}, api.ErrShape},
		{"a short row that is wrong", [][]int{{-1}, {3, 4}}, api.ErrShape},
		{"a number below 0", [][]int{{1, -1}, {3, 4}}, api.ErrRange},
		{"a great number", [][]int{{1, 2}, {3, 10001}}, api.ErrRange},
		{"a very great number", [][]int{{great}}, api.ErrRange},
		{"a number, then a row", [][]int{{1, -1}, {3}}, api.ErrRange},
		{"a row, then a number", [][]int{{1}, {3, small}}, api.ErrShape},
	}
}

// P9.6: what orders take.
func TestMakeReady(t *testing.T) {
	big := [][]int{{1, 2, 3}, {10, 20, 30}, {100, 200, 300}}
	for _, x := range []struct {
		minutes [][]int
		order   []int
		wanted  int
		e       api.Errno
	}{
		{exampleTable(), []int{0, 1}, 14, api.OK},
		{exampleTable(), []int{1, 0}, 9, api.OK},
		{nil, nil, 0, api.OK},
		{[][]int{{10000}}, []int{0}, 10000, api.OK},
		{[][]int{{0}}, []int{0}, 0, api.OK},
		{big, []int{0, 1, 2}, 1 + 2 + 30, api.OK},
		{big, []int{0, 2, 1}, 1 + 3 + 200, api.OK},
		{big, []int{1, 2, 0}, 20 + 30 + 100, api.OK},
		{big, []int{2, 1, 0}, 300 + 200 + 10, api.OK},
		{big, []int{0, 1}, 0, api.ErrShape},
		{big, []int{0, 1, 2, 2}, 0, api.ErrShape},
		{big, nil, 0, api.ErrShape},
		{big, []int{3}, 0, api.ErrShape},
		{nil, []int{0}, 0, api.ErrShape},
		{big, []int{0, 1, 3}, 0, api.ErrMissing},
		{big, []int{-1, 0, 0}, 0, api.ErrMissing},
		{big, []int{small, great, 0}, 0, api.ErrMissing},
		{big, []int{0, 1, 0}, 0, api.ErrDouble},
		{big, []int{2, 2, 9}, 0, api.ErrDouble},
	} {
		n, e := press.MakeReady(x.minutes, x.order)
		want(t, fmt.Sprint("MakeReady ", x.minutes, x.order), n, e, x.wanted, x.e)
	}
	for _, w := range wrongTables() {
		n, e := press.MakeReady(w.minutes, []int{9})
		want(t, "MakeReady, "+w.what, n, e, 0, w.e)
		order, n, e := press.LeastMakeReady(w.minutes)
		want(t, "LeastMakeReady, "+w.what, order, e, nil, w.e)
		want(t, "LeastMakeReady, "+w.what, n, e, 0, w.e)
	}
}

// P9.6: the orders with the least make-ready.
func TestLeastMakeReady(t *testing.T) {
	same := slices.Repeat([][]int{slices.Repeat([]int{3}, 7)}, 7)
	down := make([][]int, 7)
	for i := range down {
		down[i] = slices.Repeat([]int{10000}, 7)
		if i > 0 {
			down[i][i-1] = 0
		}
	}
	for _, x := range []struct {
		minutes [][]int
		order   []int
		wanted  int
	}{
		{exampleTable(), []int{1, 0}, 9},
		{nil, nil, 0},
		{[][]int{{4}}, []int{0}, 4},
		{[][]int{{1, 5}, {5, 1}}, []int{0, 1}, 6},
		{same, []int{0, 1, 2, 3, 4, 5, 6}, 21},
		{down, []int{6, 5, 4, 3, 2, 1, 0}, 10000},
	} {
		order, n, e := press.LeastMakeReady(x.minutes)
		want(t, fmt.Sprint("LeastMakeReady ", x.minutes), order, e, x.order, api.OK)
		want(t, fmt.Sprint("LeastMakeReady ", x.minutes, ", minutes"), n, e, x.wanted, api.OK)
	}
}

// P9.6: the least make-ready of made tables, by the definition.
func TestMadeMakeReady(t *testing.T) {
	m := newMaker(8)
	for range 150 {
		minutes := m.table(m.Intn(6), m.from(1, 20))
		var first []int
		least := great
		for _, order := range allOrders(len(minutes)) {
			sum := 0
			for i, job := range order {
				if i == 0 {
					sum += minutes[job][job]
				} else {
					sum += minutes[order[i-1]][job]
				}
			}
			n, e := press.MakeReady(minutes, order)
			want(t, fmt.Sprint("MakeReady ", minutes, order), n, e, sum, api.OK)
			if sum < least {
				first, least = order, sum
			}
		}
		order, n, e := press.LeastMakeReady(minutes)
		want(t, fmt.Sprint("LeastMakeReady ", minutes), order, e, first, api.OK)
		want(t, fmt.Sprint("LeastMakeReady ", minutes, ", minutes"), n, e, least, api.OK)
	}
}
