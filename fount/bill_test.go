package fount_test

import (
	"testing"

	"tympan/api"
	"tympan/fount"
)

// P1.4: bills.
func TestBillFor(t *testing.T) {
	for _, c := range []struct {
		need  []int
		total int
		bill  []int
	}{
		{[]int{3, 2, 1, 0, 0}, 10, []int{5, 3, 2, 0, 0}},
		{[]int{3, 2, 1, 0, 0}, 0, []int{0, 0, 0, 0, 0}},
		{[]int{3, 2, 1, 0, 0}, 6, []int{3, 2, 1, 0, 0}},
		{[]int{3, 2, 1, 0, 0}, 1, []int{1, 0, 0, 0, 0}},
		{[]int{1, 1, 1, 1, 1}, 3, []int{1, 1, 1, 0, 0}},
		{[]int{0, 1, 1, 0, 1}, 5, []int{0, 2, 2, 0, 1}},
		{[]int{0, 0, 0, 0, 1}, 1000000, []int{0, 0, 0, 0, 1000000}},
		{[]int{1, 2, 3, 4, 5}, 8, []int{0, 1, 2, 2, 3}},
		{[]int{1, 3, 3, 0, 0}, 2, []int{0, 1, 1, 0, 0}},
		{[]int{1, 1000000, 0, 0, 0}, 1000000, []int{1, 999999, 0, 0, 0}},
		{[]int{1000000, 1000000, 1000000, 1000000, 1000000}, 1000000, []int{200000, 200000, 200000, 200000, 200000}},
	} {
		l, e := fount.BillFor(roman(), c.need, c.total)
		wantList(t, "BillFor", l, e, c.bill, api.OK)
	}
	l, e := fount.BillFor(roman(), []int{3, 2, 1, 0, 0}, -1)
	wantList(t, "BillFor a total below 0", l, e, nil, api.ErrRange)
	l, e = fount.BillFor(roman(), []int{3, 2, 1, 0, 0}, 1000001)
	wantList(t, "BillFor a total too great", l, e, nil, api.ErrRange)
	l, e = fount.BillFor(roman(), filled(5, 0), 10)
	wantList(t, "BillFor nothing", l, e, nil, api.ErrZero)
	l, e = fount.BillFor(roman(), filled(5, 0), 1000001)
	wantList(t, "BillFor nothing and a total too great", l, e, nil, api.ErrRange)
	l, e = fount.BillFor(roman(), filled(5, -1), -1)
	wantList(t, "BillFor a wrong need and a total below 0", l, e, nil, api.ErrRange)
	l, e = fount.BillFor(roman(), nil, -1)
	wantList(t, "BillFor no need and a total below 0", l, e, nil, api.ErrShape)
}

// P1.4: many sorts with equal rests, so that the order among them shows.
func TestBillForManySorts(t *testing.T) {
	need := filled(120, 1)
	want := append(filled(47, 3), filled(73, 2)...)
	l, e := fount.BillFor(wide(120), need, 2*120+47)
	wantList(t, "BillFor equal needs", l, e, want, api.OK)
	need, want = filled(120, 1), filled(120, 0)
	for i := range 60 {
		need[2*i+1] = 2
		want[2*i+1] = 1
	}
	l, e = fount.BillFor(wide(120), need, 60)
	wantList(t, "BillFor two needs", l, e, want, api.OK)
}

// P1.5: the metal of cases.
func TestMetalOf(t *testing.T) {
	for _, c := range []struct {
		counts []int
		metal  int
	}{
		{[]int{1, 1, 0, 0, 0}, 6300},
		{[]int{0, 0, 0, 0, 0}, 0},
		{[]int{0, 0, 0, 0, 1}, 1200},
		{[]int{3, 2, 1, 4, 5}, 33200},
	} {
		n, e := fount.MetalOf(roman(), c.counts)
		wantNumber(t, "MetalOf", n, e, c.metal, api.OK)
	}
	n, e := fount.MetalOf(wide(120), filled(120, 1000000))
	wantNumber(t, "MetalOf the most", n, e, 1728000000000000, api.OK)
}

// P1.5: casting.
func TestCast(t *testing.T) {
	bill := []int{1, 1, 0, 0, 0}
	for _, c := range []struct{ metal, times, left int }{
		{20000, 3, 1100},
		{0, 0, 0},
		{6299, 0, 6299},
		{6300, 1, 0},
		{6301, 1, 1},
		{1000000000000000000, 158730158730158, 4600},
	} {
		n, left, e := fount.Cast(roman(), c.metal, bill)
		if n != c.times || left != c.left || e != api.OK {
			t.Errorf("Cast of %d: %d, %d, %d, want %d, %d", c.metal, n, left, e, c.times, c.left)
		}
	}
	for _, c := range []struct {
		metal int
		bill  []int
		e     api.Errno
	}{
		{-1, bill, api.ErrRange},
		{1000000000000000001, bill, api.ErrRange},
		{-1, nil, api.ErrRange},
		{20000, nil, api.ErrShape},
		{20000, []int{1, 1, 0, 0, -1}, api.ErrRange},
		{20000, filled(5, 0), api.ErrZero},
		{0, filled(5, 0), api.ErrZero},
		{-1, filled(5, 0), api.ErrRange},
	} {
		if n, left, e := fount.Cast(roman(), c.metal, c.bill); n != 0 || left != 0 || e != c.e {
			t.Errorf("Cast of %d by %v: %d, %d, %d, want error %d", c.metal, c.bill, n, left, e, c.e)
		}
	}
}
