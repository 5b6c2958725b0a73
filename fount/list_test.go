package fount_test

import (
	"slices"
	"testing"

	"tympan/api"
	"tympan/fount"
)

// P1.2: widths, texts and needs of lists.
func TestLists(t *testing.T) {
	for _, c := range []struct {
		list  []int
		width int
		text  string
		need  []int
	}{
		{nil, 0, "", []int{0, 0, 0, 0, 0}},
		{[]int{}, 0, "", []int{0, 0, 0, 0, 0}},
		{[]int{0}, 300, "a", []int{1, 0, 0, 0, 0}},
		{[]int{0, 3, 4, 1, 2}, 1310, "a bfi", []int{1, 1, 1, 1, 1}},
		{[]int{3}, 200, " ", []int{0, 0, 0, 1, 0}},
		{[]int{3, 3, 4, 3}, 720, " ", []int{0, 0, 0, 3, 1}},
		{[]int{4, 0, 4}, 540, " a ", []int{1, 0, 0, 0, 2}},
		{[]int{4, 4, 2, 3, 4, 0, 0, 3, 1, 4, 3}, 2370, " fi aa b ", []int{2, 1, 1, 3, 4}},
	} {
		n, e := fount.WidthOf(roman(), c.list)
		wantNumber(t, "WidthOf", n, e, c.width, api.OK)
		if s, e := fount.TextOf(roman(), c.list); s != c.text || e != api.OK {
			t.Errorf("TextOf %v: %q, %d, want %q", c.list, s, e, c.text)
		}
		l, e := fount.NeedOf(roman(), c.list)
		wantList(t, "NeedOf", l, e, c.need, api.OK)
	}
}

// P1.2: the longest lists, of the widest sorts.
func TestLongLists(t *testing.T) {
	list := filled(api.MaxSet, 119)
	n, e := fount.WidthOf(wide(120), list)
	wantNumber(t, "WidthOf", n, e, 1000000000, api.OK)
	want := filled(120, 0)
	want[119] = api.MaxSet
	l, e := fount.NeedOf(wide(120), list)
	wantList(t, "NeedOf", l, e, want, api.OK)
	if s, e := fount.TextOf(wide(120), list); s != " " || e != api.OK {
		t.Errorf("TextOf: %q, %d", s, e)
	}
}

// P1.2: the errors of lists.
func TestErrorsOfLists(t *testing.T) {
	long := filled(api.MaxSet+1, 0)
	longWrong := slices.Clone(long)
	longWrong[0] = -1
	for _, c := range []struct {
		list []int
		e    api.Errno
	}{
		{[]int{-1}, api.ErrMissing},
		{[]int{5}, api.ErrMissing},
		{[]int{0, 1, 2, 3, 4, 5}, api.ErrMissing},
		{[]int{1 << 62, 0}, api.ErrMissing},
		{[]int{0, -1 << 63}, api.ErrMissing},
		{long, api.ErrLarge},
		{longWrong, api.ErrLarge},
	} {
		n, e := fount.WidthOf(roman(), c.list)
		wantNumber(t, "WidthOf", n, e, 0, c.e)
		if s, e := fount.TextOf(roman(), c.list); s != "" || e != c.e {
			t.Errorf("TextOf: %q, %d, want error %d", s, e, c.e)
		}
		l, e := fount.NeedOf(roman(), c.list)
		wantList(t, "NeedOf", l, e, nil, c.e)
	}
}
