package paragraph_test

import (
	"slices"
	"testing"

	"tympan/api"
	"tympan/paragraph"
)

// P4.6: which breaks are within words.
func TestBroken(t *testing.T) {
	for _, c := range []struct {
		what   string
		words  []api.ParagraphWord
		breaks []int
		want   []bool
		e      api.Errno
	}{
		{"example 2", four(), []int{3, 5}, []bool{true, false}, api.OK},
		{"ahead of words", four(), []int{1, 2, 4, 5}, []bool{false, false, false, false}, api.OK},
		{"lines that are not allowed", five(), []int{1, 5}, []bool{false, false}, api.OK},
		{"each place", []api.ParagraphWord{everywhere(0, 0, 0), word(0)}, []int{1, 2, 3, 4}, []bool{true, true, false, false}, api.OK},
		{"no words", nil, nil, nil, api.OK},
		// Errors, each one ahead of later ones.
		{"no place 6", four(), []int{2, 6, 1}, nil, api.ErrMissing},
		{"no place -1", four(), []int{-1, -2}, nil, api.ErrMissing},
		{"the place 0", four(), []int{0, 9}, nil, api.ErrOrder},
		{"the place 0 of no words", nil, []int{0}, nil, api.ErrOrder},
		{"a place twice", four(), []int{3, 3}, nil, api.ErrOrder},
		{"a place that is less", four(), []int{3, 2, 9}, nil, api.ErrOrder},
		{"no breaks", four(), nil, nil, api.ErrShape},
		{"not to the end", four(), []int{3}, nil, api.ErrShape},
	} {
		got, e := paragraph.Broken(roman(), c.words, c.breaks)
		wantList(t, "Broken, "+c.what, got, e, c.want, c.e)
	}
}

// P4.6: the words of lines.
func TestJoined(t *testing.T) {
	type lists = [][]int
	for _, c := range []struct {
		what   string
		lines  lists
		broken []bool
		want   lists
	}{
		{"example 3", lists{{0, 3, 0, 3, 0, 5}, {0, 3, 0, 3, 3, 3}}, []bool{true, false}, lists{{0}, {0}, {0, 0}, {0}}},
		{"nothing", nil, nil, nil},
		{"a line", lists{{0, 3, 1}}, []bool{false}, lists{{0}, {1}}},
		{"lines without words", lists{{}, {3, 4}, {0}, {4}}, []bool{false, false, false, false}, lists{{0}}},
		{"words side by side are two", lists{{0}, {1}}, []bool{false, false}, lists{{0}, {1}}},
		{"an indent, and a fill at the end", lists{{3, 4, 0, 3, 1, 5}, {2, 3}, {3, 0}}, []bool{true, false, false}, lists{{0}, {1, 2}, {0}}},
		{"a word over three lines", lists{{0, 3, 1, 5}, {2, 5}, {0, 1, 3, 2}}, []bool{true, true, false}, lists{{0}, {1, 2, 0, 1}, {2}}},
		{"a line of many words between", lists{{0, 5}, {1, 3, 2, 3, 0, 5}, {1}}, []bool{true, true, false}, lists{{0, 1}, {2}, {0, 1}}},
		{"the last sort need be no hyphen", lists{{0, 1}, {2}}, []bool{true, false}, lists{{0, 2}}},
		{"a last word of one sort", lists{{0, 3, 5}, {1, 3, 2}}, []bool{true, false}, lists{{0}, {1}, {2}}},
		{"two of them", lists{{0, 3, 5}, {5}, {1}}, []bool{true, true, false}, lists{{0}, {1}}},
	} {
		var lines []api.TypeLine
		for _, sorts := range c.lines {
			lines = append(lines, lineOf(1, sorts...))
		}
		got, e := paragraph.Joined(roman(), lines, c.broken)
		wantLists(t, "Joined, "+c.what, got, e, c.want, api.OK)
	}
}

// P4.6: lines that cannot be joined.
func TestJoinedErrors(t *testing.T) {
	long := same(0, 301)
	type lines = []api.TypeLine
	gap := lineOf(1, 3)
	for _, c := range []struct {
		what   string
		lines  lines
		broken []bool
		e      api.Errno
	}{
		{"too few broken", lines{gap, gap}, []bool{true}, api.ErrShape},
		{"too many broken", lines{gap}, []bool{true, false}, api.ErrShape},
		{"none", nil, []bool{false}, api.ErrShape},
		{"the last line is broken", lines{lineOf(0, 9), lineOf(1, 0, 5)}, []bool{false, true}, api.ErrShape},
		{"the measure 0", lines{lineOf(1, 0), lineOf(0, 9), gap}, []bool{false, true, false}, api.ErrRange},
		{"the measure 1000001", lines{lineOf(1000001, 3), gap}, []bool{true, false}, api.ErrRange},
		{"301 sorts", lines{lineOf(1, append(long, 9)...), gap}, []bool{true, false}, api.ErrLarge},
		{"no sort 6", lines{lineOf(1, 0, 6, 3), gap}, []bool{true, false}, api.ErrMissing},
		{"no sort -1", lines{lineOf(1, 0, 5), lineOf(1, 3, -1)}, []bool{true, false}, api.ErrMissing},
		{"a broken line without sorts", lines{lineOf(1), lineOf(1, 0)}, []bool{true, false}, api.ErrGap},
		{"a broken line without words", lines{lineOf(1, 3, 4), lineOf(1, 0)}, []bool{true, false}, api.ErrGap},
		{"a broken line that ends with a space", lines{lineOf(1, 0, 5, 3), lineOf(1, 0)}, []bool{true, false}, api.ErrGap},
		{"nothing behind a broken line", lines{lineOf(1, 0, 5), lineOf(1)}, []bool{true, false}, api.ErrGap},
		{"no words behind a broken line", lines{lineOf(1, 0, 5), lineOf(1, 3)}, []bool{true, false}, api.ErrGap},
		{"a space behind a broken line", lines{lineOf(1, 0, 5), lineOf(1, 3, 0)}, []bool{true, false}, api.ErrGap},
		{"a line that may not be broken, ahead of a wrong one", lines{lineOf(1, 0, 3), lineOf(0, 9)}, []bool{true, false}, api.ErrGap},
		{"a wrong line, ahead of one that may not be broken", lines{lineOf(0), lineOf(1, 3), gap}, []bool{false, true, false}, api.ErrRange},
	} {
		got, e := paragraph.Joined(roman(), c.lines, c.broken)
		wantLists(t, "Joined, "+c.what, got, e, nil, c.e)
	}
	for want, f := range badFounts() {
		got, e := paragraph.Joined(f, lines{lineOf(0)}, nil)
		wantLists(t, "Joined, a wrong fount", got, e, nil, want)
	}
}

// P4.6: lines that are the same at the beginning, and at the end.
func TestSameLines(t *testing.T) {
	type lines = []api.TypeLine
	x, y, z, w := lineOf(9, 0, 1), lineOf(9, 1, 0), lineOf(9, 0, 1, 1), lineOf(8, 0, 1)
	for _, c := range []struct {
		what string
		a, b lines
		want [2]int
	}{
		{"example 7", lines{x, y, z}, lines{x, w, z}, [2]int{1, 1}},
		{"example 7, one line", lines{x, x}, lines{x}, [2]int{1, 0}},
		{"the other way round", lines{x}, lines{x, x}, [2]int{1, 0}},
		{"equal ones", lines{x, y, z}, lines{x, y, z}, [2]int{3, 0}},
		{"nothing", nil, nil, [2]int{}},
		{"one is empty", lines{x}, nil, [2]int{}},
		{"other measures", lines{x}, lines{w}, [2]int{}},
		{"more sorts", lines{x}, lines{z}, [2]int{}},
		{"the ends alone", lines{y, x, z}, lines{w, x, z}, [2]int{0, 2}},
		{"the beginnings alone", lines{x, z, y}, lines{x, z, w}, [2]int{2, 0}},
		{"one more at the end", lines{x, y}, lines{x, y, z}, [2]int{2, 0}},
		{"one more at the beginning", lines{x, y}, lines{z, x, y}, [2]int{0, 2}},
		{"one more in the middle", lines{x, y}, lines{x, z, y}, [2]int{1, 1}},
		{"one of equal ones more", lines{x, x, x}, lines{x, x, x, x}, [2]int{3, 0}},
		{"equal ones around", lines{x, x, y, x}, lines{x, x, x}, [2]int{2, 1}},
		{"no sorts", lines{{Measure: -1, Sorts: []int{}}}, lines{{Measure: -1}}, [2]int{1, 0}},
		{"lines that are none", lines{lineOf(-7, -9)}, lines{lineOf(-7, -9), lineOf(0)}, [2]int{1, 0}},
	} {
		if got := paragraph.SameLines(c.a, c.b); got != c.want {
			t.Errorf("SameLines, %s: %v, want %v", c.what, got, c.want)
		}
	}
}

// P4.6: SameLines are as many as possible at the beginning, and of the others at the end.
func TestMadeSameLines(t *testing.T) {
	m := newMaker(6)
	make := func() []api.TypeLine {
		var lines []api.TypeLine
		for range m.Intn(7) {
			lines = append(lines, lineOf(1+m.Intn(2)))
		}
		return lines
	}
	for range 2000 {
		a, b := make(), make()
		ahead, behind := 0, 0
		for n := range min(len(a), len(b)) + 1 {
			if sameLines(a[:n], b[:n]) {
				ahead = n
			}
		}
		for n := range min(len(a), len(b)) - ahead + 1 {
			if sameLines(a[len(a)-n:], b[len(b)-n:]) {
				behind = n
			}
		}
		if got := paragraph.SameLines(a, b); got != [2]int{ahead, behind} {
			t.Errorf("SameLines of %v, %v: %v, want %d and %d", a, b, got, ahead, behind)
		}
	}
}

// P4.6: Joined of lines of made words, broken in any way.
func TestMadeJoined(t *testing.T) {
	m := newMaker(7)
	for range 1000 {
		x := m.text()
		last := len(x.places()) - 1
		var breaks []int
		for place := 1; place <= last; place++ {
			if place == last || m.Intn(2) == 0 {
				breaks = append(breaks, place)
			}
		}
		var lines []api.TypeLine
		from := 0
		for _, to := range breaks {
			var sorts []int
			for i, piece := range x.pieces(from, to) {
				if i > 0 {
					sorts = append(sorts, 3, 4)
				}
				sorts = append(sorts, piece...)
			}
			lines = append(lines, lineOf(1, sorts...))
			from = to
		}
		broken, e := paragraph.Broken(x.f, x.words, breaks)
		for i, to := range breaks {
			if broken[i] != (x.places()[to].Part > 0) {
				t.Errorf("Broken of %v, %v: %v", x, breaks, broken)
			}
		}
		if e != api.OK || len(broken) != len(breaks) {
			t.Errorf("Broken of %v, %v: %v, error %d", x, breaks, broken, e)
		}
		var want [][]int
		for _, w := range x.words {
			want = append(want, slices.Clone(w.Sorts))
		}
		got, e := paragraph.Joined(x.f, lines, broken)
		wantLists(t, "Joined of made lines", got, e, want, api.OK)
	}
}
