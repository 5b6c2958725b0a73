package proof_test

import (
	"slices"
	"strings"
	"testing"

	"tympan/api"
	"tympan/proof"
)

// leastCost is the least cost of edits, by the definition.
func leastCost(a, b []string) int {
	if len(a) == 0 || len(b) == 0 {
		return len(a) + len(b)
	}
	both := leastCost(a[1:], b[1:])
	if a[0] != b[0] {
		both++
	}
	return min(both, leastCost(a[1:], b)+1, leastCost(a, b[1:])+1)
}

// wrongWords is words that are compared, with their errors.
func wrongWords() []struct {
	a, b []string
	e    api.Errno
} {
	long := strings.Repeat("x", 31)
	return []struct {
		a, b []string
		e    api.Errno
	}{
		{many(41), nil, api.ErrLarge},
		{nil, many(41), api.ErrLarge},
		{many(41), []string{""}, api.ErrLarge},
		{append(many(40), ""), []string{"a"}, api.ErrLarge},
		{[]string{""}, many(41), api.ErrForm},
		{[]string{"a"}, append(many(40), ""), api.ErrLarge},
		{[]string{""}, nil, api.ErrForm},
		{nil, []string{""}, api.ErrForm},
		{append(many(39), long), []string{"a"}, api.ErrForm},
		{[]string{"a"}, append(many(39), long), api.ErrForm},
		{[]string{"a b"}, []string{"a"}, api.ErrForm},
		{[]string{"a"}, []string{"a", "b\n"}, api.ErrForm},
		{[]string{"\x7f"}, []string{"a"}, api.ErrForm},
		{[]string{"a"}, []string{"\xc3\xa9"}, api.ErrForm},
	}
}

// P8.5: what is wrong with words, in all functions that compare some.
func TestWrongWords(t *testing.T) {
	for _, c := range wrongWords() {
		edits, labels, e := proof.LeastEdits(c.a, c.b)
		want(t, "LeastEdits", edits, e, nil, c.e)
		want(t, "LeastEdits, the labels", labels, e, nil, c.e)
		n, e := proof.CheckEdits(c.a, c.b, []api.WordEdit{{From: -1, To: -1}})
		want(t, "CheckEdits", n, e, 0, c.e)
		n, e = proof.CheckEditLabels(c.a, c.b, nil)
		want(t, "CheckEditLabels", n, e, 0, c.e)
		marks, e := proof.MarksOf(c.a, c.b, -1)
		want(t, "MarksOf", marks, e, nil, c.e)
	}
}

// P8.5, P8.9: least edits, with labels that prove them.
func TestLeastEdits(t *testing.T) {
	for _, c := range []struct {
		a, b string
		cost int
	}{
		{"", "", 0},
		{"a", "", 1},
		{"", "a b", 2},
		{"a", "a", 0},
		{"a", "b", 1},
		{"a b", "b a", 2},
		{"the quick fox", "a quick red fox", 2},
		{"a b c d", "b c d", 1},
		{"a b c d", "d a b c", 2},
		{"# ^", "^ #", 2},
		{"A", "a", 1},
	} {
		checkLeast(t, strings.Fields(c.a), strings.Fields(c.b), c.cost)
	}
	forty := many(40)
	checkLeast(t, forty, forty, 0)
	checkLeast(t, forty, nil, 40)
	checkLeast(t, nil, forty, 40)
	checkLeast(t, forty, slices.Repeat([]string{"x"}, 40), 40)
	checkLeast(t, forty[1:], forty[:39], 2)
	m := newMaker(9)
	for range 1000 {
		a, b := m.words(m.Intn(7), 3), m.words(m.Intn(7), 3)
		checkLeast(t, a, b, leastCost(a, b))
	}
}

func checkLeast(t *testing.T, a, b []string, cost int) {
	t.Helper()
	edits, labels, e := proof.LeastEdits(a, b)
	n, e2 := proof.CheckEdits(a, b, edits)
	want(t, "CheckEdits of LeastEdits", n, e2, cost, e)
	n, e2 = proof.CheckEditLabels(a, b, labels)
	want(t, "CheckEditLabels of LeastEdits", n, e2, cost, e)
	want(t, "LeastEdits", 0, e, 0, api.OK)
}

func edit(from, to int) api.WordEdit {
	return api.WordEdit{From: from, To: to}
}

// P8.5: edits that are accepted, with their cost, or not.
func TestCheckEdits(t *testing.T) {
	a, b := strings.Fields("the quick fox"), strings.Fields("a quick red fox")
	for _, c := range []struct {
		what  string
		edits []api.WordEdit
		cost  int
		e     api.Errno
	}{
		{"least ones", []api.WordEdit{edit(0, 0), edit(1, 1), edit(-1, 2), edit(2, 3)}, 2, api.OK},
		{"an out and an in", []api.WordEdit{edit(0, -1), edit(-1, 0), edit(1, 1), edit(-1, 2), edit(2, 3)}, 3, api.OK},
		{"an in and an out", []api.WordEdit{edit(-1, 0), edit(0, -1), edit(1, 1), edit(-1, 2), edit(2, 3)}, 3, api.OK},
		{"all out, all in", []api.WordEdit{edit(0, -1), edit(1, -1), edit(2, -1), edit(-1, 0), edit(-1, 1), edit(-1, 2), edit(-1, 3)}, 7, api.OK},
		{"changes", []api.WordEdit{edit(0, 0), edit(1, 1), edit(2, 2), edit(-1, 3)}, 3, api.OK},
		{"none", nil, 0, api.ErrGap},
		{"an end of a", []api.WordEdit{edit(0, 0), edit(1, 1), edit(-1, 2), edit(-1, 3)}, 0, api.ErrGap},
		{"an end of b", []api.WordEdit{edit(0, 0), edit(1, 1), edit(2, 2)}, 0, api.ErrGap},
		{"nothing", []api.WordEdit{edit(0, 0), edit(-1, -1)}, 0, api.ErrForm},
		{"nothing behind all", []api.WordEdit{edit(0, 0), edit(1, 1), edit(-1, 2), edit(2, 3), edit(-1, -1)}, 0, api.ErrForm},
		{"a word left out", []api.WordEdit{edit(0, 0), edit(2, 1)}, 0, api.ErrOrder},
		{"a word of b left out", []api.WordEdit{edit(0, 0), edit(1, 2)}, 0, api.ErrOrder},
		{"a word twice", []api.WordEdit{edit(0, 0), edit(0, 1)}, 0, api.ErrOrder},
		{"a word of b twice", []api.WordEdit{edit(0, 0), edit(1, 0)}, 0, api.ErrOrder},
		{"no word of a", []api.WordEdit{edit(0, 0), edit(1, 1), edit(-1, 2), edit(2, 3), edit(3, -1)}, 0, api.ErrOrder},
		{"no word of b", []api.WordEdit{edit(0, 0), edit(1, 1), edit(-1, 2), edit(2, 3), edit(-1, 4)}, 0, api.ErrOrder},
		{"-2", []api.WordEdit{edit(0, -2)}, 0, api.ErrOrder},
		{"-2 of a", []api.WordEdit{edit(-2, 0)}, 0, api.ErrOrder},
		{"great numbers", []api.WordEdit{edit(great, small)}, 0, api.ErrOrder},
		{"a wrong order ahead of nothing", []api.WordEdit{edit(1, 0), edit(-1, -1)}, 0, api.ErrOrder},
		{"nothing ahead of a wrong order", []api.WordEdit{edit(-1, -1), edit(1, 0)}, 0, api.ErrForm},
	} {
		n, e := proof.CheckEdits(a, b, c.edits)
		want(t, "CheckEdits, "+c.what, n, e, c.cost, c.e)
	}
	n, e := proof.CheckEdits(nil, nil, nil)
	want(t, "CheckEdits of no words", n, e, 0, api.OK)
	n, e = proof.CheckEdits(nil, nil, []api.WordEdit{edit(0, -1)})
	want(t, "CheckEdits of an edit without words", n, e, 0, api.ErrOrder)
}

// P8.5: labels that are right, and others.
func TestCheckEditLabels(t *testing.T) {
	ab, cb := []string{"a", "b"}, []string{"c", "b"}
	for _, c := range []struct {
		what   string
		labels []int
		bound  int
		e      api.Errno
	}{
		{"the greatest ones", []int{0, 1, 2, 1, 1, 2, 2, 2, 1}, 1, api.OK},
		{"only 0", make([]int, 9), 0, api.OK},
		{"lesser ones", []int{0, 1, 0, 0, 1, 1, 1, 0, 1}, 1, api.OK},
		{"too many", make([]int, 10), 0, api.ErrShape},
		{"too few", make([]int, 8), 0, api.ErrShape},
		{"none", nil, 0, api.ErrShape},
		{"too few, out of range", []int{-1}, 0, api.ErrShape},
		{"101", []int{0, 1, 2, 1, 1, 2, 2, 2, 101}, 0, api.ErrRange},
		{"-1", []int{0, 1, 2, 1, 1, 2, 2, 2, -1}, 0, api.ErrRange},
		{"-1 first", []int{-1, 0, 0, 0, 0, 0, 0, 0, 0}, 0, api.ErrRange},
		{"great", []int{0, 1, 2, 1, 1, 2, 2, great, 1}, 0, api.ErrRange},
		{"small", []int{0, 1, 2, 1, 1, 2, 2, small, 1}, 0, api.ErrRange},
		{"1 first, then out of range", []int{1, 0, 0, 0, 0, 0, 0, 0, 101}, 0, api.ErrRange},
		{"1 first", []int{1, 0, 0, 0, 0, 0, 0, 0, 0}, 0, api.ErrProof},
		{"100", []int{0, 1, 2, 1, 1, 2, 2, 2, 100}, 0, api.ErrProof},
		{"2 more by a word that comes in", []int{0, 1, 3, 1, 1, 2, 2, 2, 1}, 0, api.ErrProof},
		{"2 more by a word that goes out", []int{0, 1, 2, 1, 1, 2, 3, 2, 1}, 0, api.ErrProof},
		{"2 more by a change", []int{0, 1, 2, 1, 2, 2, 2, 2, 1}, 0, api.ErrProof},
		{"more by the same word", []int{0, 1, 2, 1, 1, 2, 2, 2, 2}, 0, api.ErrProof},
	} {
		n, e := proof.CheckEditLabels(ab, cb, c.labels)
		want(t, "CheckEditLabels, "+c.what, n, e, c.bound, c.e)
	}
	n, e := proof.CheckEditLabels(nil, nil, []int{0})
	want(t, "CheckEditLabels of no words", n, e, 0, api.OK)
	n, e = proof.CheckEditLabels(ab, nil, []int{0, 1, 2})
	want(t, "CheckEditLabels of words that go out", n, e, 2, api.OK)
	n, e = proof.CheckEditLabels(nil, ab, []int{0, 1, 3})
	want(t, "CheckEditLabels of words that come in", n, e, 0, api.ErrProof)
}

// areRight tells whether labels are right, by the definition.
func areRight(a, b []string, labels []int) bool {
	at := func(i, k int) int { return labels[i*(len(b)+1)+k] }
	right := at(0, 0) == 0
	for i := range len(a) + 1 {
		for k := range len(b) + 1 {
			if i < len(a) {
				right = right && at(i+1, k) <= at(i, k)+1
			}
			if k < len(b) {
				right = right && at(i, k+1) <= at(i, k)+1
			}
			if i < len(a) && k < len(b) {
				right = right && (at(i+1, k+1) <= at(i, k) || a[i] != b[k] && at(i+1, k+1) == at(i, k)+1)
			}
		}
	}
	return right
}

// P8.5, P8.9: made labels are accepted just if they are right, and then prove no more than the least
// cost.
func TestMadeEditLabels(t *testing.T) {
	m := newMaker(10)
	counts := map[bool]int{}
	for range 5000 {
		a, b := m.words(m.Intn(4), 2), m.words(m.Intn(4), 2)
		_, labels, _ := proof.LeastEdits(a, b)
		for range m.Intn(3) {
			labels[m.Intn(len(labels))] = m.Intn(5)
		}
		n, e := proof.CheckEditLabels(a, b, labels)
		right := areRight(a, b, labels)
		counts[right]++
		if !right {
			want(t, "CheckEditLabels", n, e, 0, api.ErrProof)
			continue
		}
		want(t, "CheckEditLabels", n, e, labels[len(labels)-1], api.OK)
		if cost := leastCost(a, b); n > cost {
			t.Errorf("%v, %v: labels prove %d, the least cost is %d", a, b, n, cost)
		}
	}
	if counts[true] < 500 || counts[false] < 500 {
		t.Errorf("labels that are not right and right ones: %v", counts)
	}
}

// P8.5: the errors of MarksOf behind those of words.
func TestMarksOfErrors(t *testing.T) {
	x := []string{"a"}
	for _, c := range []struct {
		a, b []string
		part int
		e    api.Errno
	}{
		{[]string{"#"}, nil, -1, api.ErrForm},
		{nil, []string{"a", "^"}, -1, api.ErrForm},
		{[]string{"a", "b", "#"}, x, 0, api.ErrForm},
		{x, []string{"^"}, 60, api.ErrForm},
		{nil, nil, 0, api.ErrShape},
		{nil, x, 60, api.ErrShape},
		{x, nil, -1, api.ErrShape},
		{x, x, -1, api.ErrRange},
		{x, []string{"b"}, 60, api.ErrRange},
		{x, x, great, api.ErrRange},
		{x, x, small, api.ErrRange},
	} {
		l, e := proof.MarksOf(c.a, c.b, c.part)
		want(t, "MarksOf", l, e, nil, c.e)
	}
}

// P8.5, P8.9: as few marks as possible make b of a.
func TestMarksOf(t *testing.T) {
	checkMarksOf(t, strings.Fields("the quick fox"), strings.Fields("a quick red fox"), 2)
	checkMarksOf(t, []string{"a"}, []string{"a"}, 0)
	checkMarksOf(t, []string{"a"}, []string{"b"}, 1)
	checkMarksOf(t, []string{"#5", "^^"}, []string{"##"}, 2)
	checkMarksOf(t, many(40), many(1), 39)
	checkMarksOf(t, many(1), many(40), 39)
	checkMarksOf(t, many(40), []string{"x"}, 40)
	checkMarksOf(t, []string{"x"}, many(40), 40)
	m := newMaker(11)
	for range 1000 {
		a, b := m.words(1+m.Intn(6), 3), m.words(1+m.Intn(6), 3)
		checkMarksOf(t, a, b, leastCost(a, b))
	}
}

func checkMarksOf(t *testing.T, a, b []string, count int) {
	t.Helper()
	copyWith := func(words []string) []api.CopyPart {
		return append(slices.Repeat([]api.CopyPart{body("a", "b")}, 59), api.CopyPart{Kind: api.CopyNote, Words: words})
	}
	for _, part := range []int{0, 59} {
		l, e := proof.MarksOf(a, b, part)
		want(t, "MarksOf, how many", len(l), e, count, api.OK)
		for _, m := range l {
			if m.Part != part || m.Mark > api.MarkChange {
				t.Errorf("MarksOf of the part %d has %q", part, proof.FormatMark(m))
			}
		}
		if part == 59 {
			behind, _, e := proof.AppliedAll(copyWith(a), l)
			want(t, "the copy", behind, e, copyWith(b), api.OK)
		} else {
			behind, _, e := proof.AppliedAll([]api.CopyPart{body(a...)}, l)
			want(t, "the copy of one part", behind, e, []api.CopyPart{body(b...)}, api.OK)
		}
	}
}
