package fount_test

import (
	"slices"
	"testing"

	"tympan/api"
	"tympan/fount"
)

// wrongCounts has lists that are no case of the fount roman, with their errors.
var wrongCounts = []struct {
	counts []int
	e      api.Errno
}{
	{nil, api.ErrShape},
	{[]int{1, 1, 1, 1}, api.ErrShape},
	{[]int{1, 1, 1, 1, 1, 1}, api.ErrShape},
	{[]int{-1, -1, -1, -1}, api.ErrShape},
	{[]int{-1, 1, 1, 1, 1}, api.ErrRange},
	{[]int{1, 1, 1, 1, -1}, api.ErrRange},
	{[]int{1, 1, 1000001, 1, 1}, api.ErrRange},
	{[]int{1, 1, 1, 1, 1 << 62}, api.ErrRange},
	{[]int{1, 1, -1 << 63, 1, 1}, api.ErrRange},
}

// P1.3: what is a case.
func TestCheckCase(t *testing.T) {
	for _, counts := range [][]int{{0, 0, 0, 0, 0}, {3, 2, 0, 5, 5}, filled(5, 1000000)} {
		if e := fount.CheckCase(roman(), counts); e != api.OK {
			t.Errorf("CheckCase %v: %d", counts, e)
		}
	}
	for _, c := range wrongCounts {
		if e := fount.CheckCase(roman(), c.counts); e != c.e {
			t.Errorf("CheckCase %v: %d, want %d", c.counts, e, c.e)
		}
	}
}

// P1.3 to P1.5, P1.7: every function tells the errors of its counts in the order of its arguments.
func TestErrorsOfCounts(t *testing.T) {
	f, right, other := roman(), []int{3, 2, 0, 5, 5}, []int{1, 1, 0, 2, 0}
	same := map[string]func(a, b []int) ([]any, api.Errno){
		"Joined":  func(a, b []int) ([]any, api.Errno) { r, e := fount.Joined(f, a, b); return results(e, r) },
		"Taken":   func(a, b []int) ([]any, api.Errno) { r, n, e := fount.Taken(f, a, b); return results(e, r, n) },
		"Lacking": func(a, b []int) ([]any, api.Errno) { r, e := fount.Lacking(f, a, b); return results(e, r) },
		"Times":   func(a, b []int) ([]any, api.Errno) { r, n, e := fount.Times(f, a, b); return results(e, r, n) },
		"Enough":  func(a, b []int) ([]any, api.Errno) { r, e := fount.Enough(f, [][]int{a, b}); return results(e, r) },
		"BillFor": func(a, b []int) ([]any, api.Errno) {
			if e := fount.CheckCase(f, a); e != api.OK {
				r, e := fount.BillFor(f, a, -1)
				return results(e, r)
			}
			r, e := fount.BillFor(f, b, -1)
			return results(e, r)
		},
		"MetalOf": func(a, b []int) ([]any, api.Errno) {
			if r, e := fount.MetalOf(f, a); e != api.OK {
				return results(e, r)
			}
			r, e := fount.MetalOf(f, b)
			return results(e, r)
		},
		"FormatCase": func(a, b []int) ([]any, api.Errno) {
			if r, e := fount.FormatCase(f, a); e != api.OK {
				return results(e, r)
			}
			r, e := fount.FormatCase(f, b)
			return results(e, r)
		},
		"Cast": func(a, b []int) ([]any, api.Errno) {
			if r, n, e := fount.Cast(f, 20000, a); e != api.OK {
				return results(e, r, n)
			}
			r, n, e := fount.Cast(f, 20000, b)
			return results(e, r, n)
		},
	}
	for name, do := range same {
		for _, c := range wrongCounts {
			if r, e := do(c.counts, other); e != c.e || !isZero(r) {
				t.Errorf("%s of the wrong %v: %v, %d, want error %d", name, c.counts, r, e, c.e)
			}
			if r, e := do(right, c.counts); e != c.e || !isZero(r) {
				t.Errorf("%s of %v behind a right one: %v, %d, want error %d", name, c.counts, r, e, c.e)
			}
		}
		if r, e := do([]int{1, 1, 1, 1, -1}, nil); e != api.ErrRange || !isZero(r) {
			t.Errorf("%s of two wrong ones: %v, %d", name, r, e)
		}
		if r, e := do(nil, []int{1, 1, 1, 1, -1}); e != api.ErrShape || !isZero(r) {
			t.Errorf("%s of two wrong ones: %v, %d", name, r, e)
		}
	}
}

func TestJoined(t *testing.T) {
	l, e := fount.Joined(roman(), []int{3, 2, 0, 5, 5}, []int{1, 1, 0, 2, 0})
	wantList(t, "Joined", l, e, []int{4, 3, 0, 7, 5}, api.OK)
	l, e = fount.Joined(roman(), []int{0, 0, 0, 0, 999999}, []int{0, 0, 0, 0, 1})
	wantList(t, "Joined to the most", l, e, []int{0, 0, 0, 0, 1000000}, api.OK)
	l, e = fount.Joined(roman(), []int{0, 0, 0, 0, 1000000}, []int{0, 0, 0, 0, 1})
	wantList(t, "Joined beyond the most", l, e, nil, api.ErrLarge)
	l, e = fount.Joined(roman(), []int{1, 0, 0, 0, 0}, []int{1000000, 0, 0, 0, 0})
	wantList(t, "Joined beyond the most", l, e, nil, api.ErrLarge)
}

func TestTakenAndLacking(t *testing.T) {
	for _, c := range []struct {
		counts, need, left []int
		first              int
		lacking            []int
	}{
		{[]int{3, 2, 0, 5, 5}, []int{1, 1, 0, 2, 0}, []int{2, 1, 0, 3, 5}, 0, []int{0, 0, 0, 0, 0}},
		{[]int{3, 2, 0, 5, 5}, []int{3, 2, 0, 5, 5}, []int{0, 0, 0, 0, 0}, 0, []int{0, 0, 0, 0, 0}},
		{[]int{3, 2, 0, 5, 5}, []int{0, 0, 0, 0, 0}, []int{3, 2, 0, 5, 5}, 0, []int{0, 0, 0, 0, 0}},
		{[]int{3, 2, 0, 5, 5}, []int{1, 3, 1, 0, 0}, nil, 1, []int{0, 1, 1, 0, 0}},
		{[]int{3, 2, 0, 5, 5}, []int{4, 3, 1, 6, 1000000}, nil, 0, []int{1, 1, 1, 1, 999995}},
		{[]int{3, 2, 0, 5, 5}, []int{3, 2, 0, 5, 6}, nil, 4, []int{0, 0, 0, 0, 1}},
	} {
		want := api.OK
		if c.left == nil {
			want = api.ErrStock
		}
		l, n, e := fount.Taken(roman(), c.counts, c.need)
		wantList(t, "Taken", l, e, c.left, want)
		wantNumber(t, "Taken stopped by", n, e, c.first, want)
		l, e = fount.Lacking(roman(), c.counts, c.need)
		wantList(t, "Lacking", l, e, c.lacking, api.OK)
	}
}

func TestTimes(t *testing.T) {
	for _, c := range []struct {
		counts, need []int
		times, stop  int
	}{
		{[]int{3, 2, 0, 5, 5}, []int{1, 1, 0, 2, 0}, 2, 1},
		{[]int{3, 2, 0, 4, 5}, []int{1, 1, 0, 2, 0}, 2, 1},
		{[]int{3, 2, 0, 5, 5}, []int{0, 0, 0, 2, 2}, 2, 3},
		{[]int{3, 2, 0, 5, 5}, []int{0, 0, 0, 1, 5}, 1, 4},
		{[]int{3, 2, 0, 5, 5}, []int{1, 1, 1, 1, 1}, 0, 2},
		{[]int{3, 2, 0, 5, 5}, []int{0, 3, 1, 0, 0}, 0, 1},
		{[]int{0, 0, 0, 0, 1000000}, []int{0, 0, 0, 0, 1}, 1000000, 4},
		{[]int{5, 0, 0, 0, 0}, []int{3, 0, 0, 0, 0}, 1, 0},
	} {
		n, stop, e := fount.Times(roman(), c.counts, c.need)
		if n != c.times || stop != c.stop || e != api.OK {
			t.Errorf("Times of %v in %v: %d, %d, %d, want %d, %d", c.need, c.counts, n, stop, e, c.times, c.stop)
		}
	}
	if n, stop, e := fount.Times(roman(), []int{3, 2, 0, 5, 5}, filled(5, 0)); n != 0 || stop != 0 || e != api.ErrZero {
		t.Errorf("Times of nothing: %d, %d, %d", n, stop, e)
	}
}

// P1.4: the least case for each of several needs.
func TestEnough(t *testing.T) {
	l, e := fount.Enough(roman(), [][]int{{3, 2, 1, 0, 0}, {1, 4, 0, 0, 2}})
	wantList(t, "Enough", l, e, []int{3, 4, 1, 0, 2}, api.OK)
	l, e = fount.Enough(roman(), nil)
	wantList(t, "Enough for no need", l, e, []int{0, 0, 0, 0, 0}, api.OK)
	l, e = fount.Enough(roman(), [][]int{{1000000, 0, 0, 0, 0}})
	wantList(t, "Enough for one need", l, e, []int{1000000, 0, 0, 0, 0}, api.OK)
	needs := slices.Repeat([][]int{{1, 0, 0, 0, 0}}, 99)
	needs = append(needs, []int{0, 0, 0, 0, 7})
	l, e = fount.Enough(roman(), needs)
	wantList(t, "Enough for 100 needs", l, e, []int{1, 0, 0, 0, 7}, api.OK)
	l, e = fount.Enough(roman(), append(needs, []int{0, 0, 0, 0, 7}))
	wantList(t, "Enough for 101 needs", l, e, nil, api.ErrLarge)
	l, e = fount.Enough(roman(), append([][]int{{-1}}, needs...))
	wantList(t, "Enough for 101 needs, one of them wrong", l, e, nil, api.ErrLarge)
	l, e = fount.Enough(roman(), [][]int{{1, 1, 1, 1, 1}, {1, 1, 1, 1, -1}, {1}})
	wantList(t, "Enough for wrong needs", l, e, nil, api.ErrRange)
	l, e = fount.Enough(roman(), [][]int{{1, 1, 1, 1, 1}, {1}, {1, 1, 1, 1, -1}})
	wantList(t, "Enough for wrong needs", l, e, nil, api.ErrShape)
}
