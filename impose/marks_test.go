package impose_test

import (
	"slices"
	"testing"

	"tympan/api"
	"tympan/impose"
)

// P6.5: creep of the chapter, of one leaf, and of an odd number of leaves.
func TestCreep(t *testing.T) {
	for _, c := range []struct {
		leaves, thickness int
		want              []int
	}{
		{4, 10, []int{0, 0, 10, 10, 10, 10, 0, 0}},
		{1, 10000, []int{0, 0}},
		{2, 7, []int{0, 0, 0, 0}},
		{3, 7, []int{0, 0, 7, 7, 0, 0}},
		{5, 3, []int{0, 0, 3, 3, 6, 6, 3, 3, 0, 0}},
		{6, 0, slices.Repeat([]int{0}, 12)},
	} {
		for i, wanted := range c.want {
			n, e := impose.Creep(c.leaves, c.thickness, i+1)
			want(t, "Creep", n, e, wanted, api.OK)
		}
	}
	n, e := impose.Creep(64, 10000, 64)
	want(t, "the most creep", n, e, 310000, api.OK)
}

// P6.5: what is wrong with creep.
func TestWrongCreep(t *testing.T) {
	for _, c := range [][3]int{
		{0, 1, 1}, {-1, 1, 1}, {65, 1, 1}, {great, 1, 1}, {small, 1, 1},
		{4, -1, 1}, {4, 10001, 1}, {4, great, 8}, {4, small, 1},
		{4, 1, 0}, {4, 1, -1}, {4, 1, 9}, {4, 1, great}, {4, 1, small}, {64, 1, 129}, {1, 1, 3},
	} {
		n, e := impose.Creep(c[0], c[1], c[2])
		want(t, "Creep of what is out of range", n, e, 0, api.ErrRange)
	}
}

// P6.9: a page and the one on its back creep alike; no page of a lesser leaf creeps more up to the
// middle, and behind it all is as ahead of it.
func TestAllCreep(t *testing.T) {
	for leaves := 1; leaves <= 64; leaves++ {
		at := func(leaf, side int) int {
			n, e := impose.Creep(leaves, 10, 2*leaf+1+side)
			if e != api.OK {
				t.Errorf("Creep of %d leaves, leaf %d: error %d", leaves, leaf, e)
			}
			return n
		}
		for leaf := range leaves {
			if at(leaf, 0) != at(leaf, 1) || at(leaf, 0) != at(leaves-1-leaf, 0) {
				t.Errorf("Creep of %d leaves, leaf %d: %d and %d", leaves, leaf, at(leaf, 0), at(leaf, 1))
			}
			if leaf > 0 && 2*leaf <= leaves-1 && at(leaf, 0) != at(leaf-1, 0)+10 {
				t.Errorf("Creep of %d leaves, leaf %d: %d", leaves, leaf, at(leaf, 0))
			}
		}
	}
}

// P6.5: collating marks.
func TestMarkAt(t *testing.T) {
	for _, c := range []struct {
		spine, mark int
		want        []int
	}{
		{100, 30, []int{0, 30, 60, 0, 30, 60, 0}},
		{90, 30, []int{0, 30, 60, 0}},
		{89, 30, []int{0, 30, 0, 30}},
		{100, 100, []int{0, 0, 0}},
		{100, 51, []int{0, 0}},
		{1, 1, []int{0, 0}},
		{3, 1, []int{0, 1, 2, 0}},
	} {
		for signature, wanted := range c.want {
			n, e := impose.MarkAt(signature, c.spine, c.mark)
			want(t, "MarkAt", n, e, wanted, api.OK)
		}
	}
	n, e := impose.MarkAt(4000, 4000, 1)
	want(t, "MarkAt the last signature", n, e, 0, api.OK)
	n, e = impose.MarkAt(3999, 4000, 1)
	want(t, "MarkAt the last place", n, e, 3999, api.OK)
	for _, c := range [][3]int{
		{-1, 100, 30}, {4001, 100, 30}, {great, 100, 30}, {small, 100, 30},
		{0, 0, 1}, {0, -1, -1}, {0, 4001, 30}, {0, great, 1}, {0, small, 1},
		{0, 100, 0}, {0, 100, -1}, {0, 100, 101}, {0, 100, great}, {0, 100, small}, {0, 0, 0},
	} {
		n, e := impose.MarkAt(c[0], c[1], c[2])
		want(t, "MarkAt of what is out of range", n, e, 0, api.ErrRange)
	}
}

// upTo is the numbers from 0 on.
func upTo(n int) []int {
	var l []int
	for i := range n {
		l = append(l, i)
	}
	return l
}

// P6.5: the first signature that is not the one that belongs there.
func TestFirstMisplaced(t *testing.T) {
	for _, c := range []struct {
		order []int
		place int
		e     api.Errno
	}{
		{[]int{0}, 0, api.ErrNone},
		{upTo(5), 0, api.ErrNone},
		{upTo(4000), 0, api.ErrNone},
		{[]int{1, 0}, 0, api.OK},
		{[]int{0, 2, 1}, 1, api.OK},
		{[]int{0, 1, 1, 3}, 2, api.OK},
		{[]int{0, 1, 2, 4000}, 3, api.OK},
		{[]int{4000}, 0, api.OK},
		{nil, 0, api.ErrShape},
		{upTo(4001), 0, api.ErrShape},
		{slices.Repeat([]int{-1}, 4001), 0, api.ErrShape},
		{[]int{-1}, 0, api.ErrRange},
		{[]int{0, 1, 4001}, 0, api.ErrRange},
		{[]int{1, 0, small}, 0, api.ErrRange},
		{[]int{1, great}, 0, api.ErrRange},
	} {
		n, e := impose.FirstMisplaced(c.order)
		want(t, "FirstMisplaced", n, e, c.place, c.e)
	}
}
