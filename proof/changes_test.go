package proof_test

import (
	"slices"
	"testing"

	"tympan/api"
	"tympan/proof"
)

// P8.6: sorts that move in the type.
func TestTypeMoves(t *testing.T) {
	for _, c := range []struct{ a, b, out, in []int }{
		{nil, nil, nil, nil},
		{[]int{3, 1, 2, 1}, []int{1, 2, 4}, []int{1, 3}, []int{4}},
		{[]int{5, 5, 5}, []int{5}, []int{5, 5}, nil},
		{[]int{5}, []int{5, 5, 5}, nil, []int{5, 5}},
		{[]int{2, 1}, []int{1, 2}, nil, nil},
		{[]int{9, 0, 9, 0}, nil, []int{0, 0, 9, 9}, nil},
		{nil, []int{7, -1, great, small}, nil, []int{small, -1, 7, great}},
		{slices.Repeat([]int{1, 2}, 150), slices.Repeat([]int{2, 3, 3}, 100), append(slices.Repeat([]int{1}, 150), slices.Repeat([]int{2}, 50)...), slices.Repeat([]int{3}, 200)},
	} {
		moves, e := proof.TypeMoves(c.a, c.b)
		want(t, "TypeMoves", moves, e, [2][]int{c.out, c.in}, api.OK)
	}
}

// P8.6: too many sorts.
func TestTooManySorts(t *testing.T) {
	most, more := make([]int, 300), make([]int, 301)
	for _, both := range [][2][]int{{more, nil}, {nil, more}, {more, more}, {most, more}} {
		moves, e := proof.TypeMoves(both[0], both[1])
		want(t, "TypeMoves", moves, e, [2][]int{}, api.ErrLarge)
		pairs, e := proof.Kept(both[0], both[1])
		want(t, "Kept", pairs, e, nil, api.ErrLarge)
	}
	pairs, e := proof.Kept(most, most)
	want(t, "Kept of 300", len(pairs), e, 300, api.OK)
}

// keptByDefinition is the first one of the longest lists of pairs of places with the same sort.
func keptByDefinition(a, b []int) [][2]int {
	var best [][2]int
	var more func(l [][2]int, i, k int)
	more = func(l [][2]int, i, k int) {
		// In lexicographic order, so that the first one of a length stays.
		if len(l) > len(best) {
			best = slices.Clone(l)
		}
		for ; i < len(a); i++ {
			for next := k; next < len(b); next++ {
				if a[i] == b[next] {
					more(append(l, [2]int{i, next}), i+1, next+1)
				}
			}
		}
	}
	more(nil, 0, 0)
	return best
}

// P8.6: sorts that stay where they are.
func TestKept(t *testing.T) {
	for _, c := range []struct {
		a, b  []int
		pairs [][2]int
	}{
		{nil, nil, nil},
		{[]int{1}, nil, nil},
		{[]int{1}, []int{2}, nil},
		{[]int{3, 1, 2, 1}, []int{1, 2, 4}, [][2]int{{1, 0}, {2, 1}}},
		{[]int{1, 1}, []int{1}, [][2]int{{0, 0}}},
		{[]int{1}, []int{2, 1, 1}, [][2]int{{0, 1}}},
		{[]int{1, 2}, []int{2, 1}, [][2]int{{0, 1}}},
		{[]int{1, 2, 3}, []int{2, 3, 1}, [][2]int{{1, 0}, {2, 1}}},
		{[]int{-1, great}, []int{great, -1, great}, [][2]int{{0, 1}, {1, 2}}},
	} {
		pairs, e := proof.Kept(c.a, c.b)
		want(t, "Kept", pairs, e, c.pairs, api.OK)
	}
	m := newMaker(12)
	for range 3000 {
		a, b := m.numbers(m.Intn(8), 3), m.numbers(m.Intn(8), 3)
		pairs, e := proof.Kept(a, b)
		want(t, "Kept", pairs, e, keptByDefinition(a, b), api.OK)
	}
}

// P8.6, P8.9: what moves, by the definition; at least as many sorts are not kept.
func TestMovesByDefinition(t *testing.T) {
	m := newMaker(13)
	for range 1000 {
		a, b := m.numbers(m.Intn(30), 6), m.numbers(m.Intn(30), 6)
		var out, in []int
		for sort := range 6 {
			count := func(l []int) int {
				n := 0
				for _, x := range l {
					if x == sort {
						n++
					}
				}
				return n
			}
			out = append(out, slices.Repeat([]int{sort}, max(0, count(a)-count(b)))...)
			in = append(in, slices.Repeat([]int{sort}, max(0, count(b)-count(a)))...)
		}
		moves, e := proof.TypeMoves(a, b)
		want(t, "TypeMoves", moves, e, [2][]int{out, in}, api.OK)
		kept, e := proof.Kept(a, b)
		want(t, "Kept", e, e, api.OK, api.OK)
		if len(a)-len(kept) < len(out) || len(b)-len(kept) < len(in) {
			t.Errorf("%v, %v: %d kept, %v and %v move", a, b, len(kept), out, in)
		}
	}
}

// P8.6: the first part and word in which copies differ.
func TestFirstChanged(t *testing.T) {
	for _, c := range []struct {
		a, b string
		at   [2]int
		e    api.Errno
	}{
		{"", "", [2]int{}, api.ErrNone},
		{"the quick fox", "the quick fox", [2]int{}, api.ErrNone},
		{"# a / ^ b c / d", "# a / ^ b c / d", [2]int{}, api.ErrNone},
		{"", "a", [2]int{0, 0}, api.OK},
		{"a / b", "a", [2]int{1, 0}, api.OK},
		{"a", "# a", [2]int{0, 0}, api.OK},
		{"x / a", "x / ^ b", [2]int{1, 0}, api.OK},
		{"x y / a", "x z / # a", [2]int{0, 1}, api.OK},
		{"x y / a b c", "x y / a b", [2]int{1, 2}, api.OK},
		{"x y / a", "x y / a b", [2]int{1, 1}, api.OK},
		{"x y / a", "x y / b", [2]int{1, 0}, api.OK},
		{"x y / a", "x y / A", [2]int{1, 0}, api.OK},
		{"a b", "a c / d", [2]int{0, 1}, api.OK},
		{"a b / c", "a / b c", [2]int{0, 1}, api.OK},
	} {
		for _, both := range [][2]string{{c.a, c.b}, {c.b, c.a}} {
			at, e := proof.FirstChanged(copyOf(both[0]), copyOf(both[1]))
			want(t, "FirstChanged of "+both[0]+" and "+both[1], at, e, c.at, c.e)
		}
	}
	last := slices.Repeat([]api.CopyPart{body(many(100)...)}, 60)
	other := slices.Clone(last)
	other[59] = body(append(many(99), "x")...)
	at, e := proof.FirstChanged(last, other)
	want(t, "FirstChanged of the last word of all", at, e, [2]int{59, 99}, api.OK)
}
