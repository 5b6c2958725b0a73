package proof_test

import (
	"slices"
	"strconv"
	"strings"
	"testing"

	"tympan/api"
	"tympan/proof"
)

// wrongCopies is copies with their errors.
func wrongCopies() map[api.Errno][]api.CopyPart {
	return map[api.Errno][]api.CopyPart{
		api.ErrLarge: append(slices.Repeat([]api.CopyPart{body("a")}, 60), body()),
		api.ErrKind:  {body("a"), {Kind: 4}},
		api.ErrShape: {body("a"), body()},
		api.ErrForm:  {body("a", "b c"), body()},
	}
}

// P8.2, P8.6, R9: the errors of copies come first.
func TestWrongCopies(t *testing.T) {
	wrong, other := api.ProofMark{}, []api.CopyPart{{}}
	for e, l := range wrongCopies() {
		parts, got := proof.Applied(l, wrong)
		want(t, "Applied", parts, got, nil, e)
		parts, n, got := proof.AppliedAll(l, []api.ProofMark{wrong})
		want(t, "AppliedAll", parts, got, nil, e)
		want(t, "AppliedAll, the number", n, got, 0, e)
		for _, both := range [][2][]api.CopyPart{{l, nil}, {nil, l}, {l, l}, {l, other}, {fox(), l}} {
			at, got := proof.FirstChanged(both[0], both[1])
			want(t, "FirstChanged", at, got, [2]int{}, e)
		}
	}
}

// P8.2: the copy behind a mark.
func TestApplied(t *testing.T) {
	three := "# a b / c / ^ d e f"
	for _, c := range []struct{ copy, mark, behind string }{
		{"the quick fox", "change 0 1 quick slow", "the slow fox"},
		{"the quick fox", "change 0 0 the #5", "#5 quick fox"},
		{"the quick fox", "change 0 2 fox ^", "the quick ^"},
		{"the quick fox", "out 0 0 the", "quick fox"},
		{"the quick fox", "out 0 2 fox", "the quick"},
		{"the quick fox", "in 0 0 very", "very the quick fox"},
		{"the quick fox", "in 0 1 #", "the # quick fox"},
		{"the quick fox", "in 0 3 ^", "the quick fox ^"},
		{"the quick fox", "swap 0 0", "quick the fox"},
		{"the quick fox", "swap 0 1", "the fox quick"},
		{"a a", "swap 0 0", "a a"},
		{"a # #", "swap 0 1", "a # #"},
		{"the quick fox", "break 0 1 1", "the / quick fox"},
		{"the quick fox", "break 0 2 3", "the quick / ^ fox"},
		{"the / quick fox", "join 0 1 1", "the quick fox"},
		{"the / # quick fox / x", "join 0 1 2", "the quick fox / x"},
		{"the quick fox", "turn 0 1 2", "# the quick fox"},
		{"# a", "change 0 0 a b", "# b"},
		{three, "out 2 1 e", "# a b / c / ^ d f"},
		{three, "in 1 1 x", "# a b / c x / ^ d e f"},
		{three, "in 1 0 x", "# a b / x c / ^ d e f"},
		{three, "swap 0 0", "# b a / c / ^ d e f"},
		{three, "break 0 1 3", "# a / ^ b / c / ^ d e f"},
		{three, "break 2 2 2", "# a b / c / ^ d e / # f"},
		{three, "join 0 2 1", "# a b c / ^ d e f"},
		{three, "join 1 1 3", "# a b / c d e f"},
		{three, "turn 2 3 1", "# a b / c / d e f"},
		{three, "turn 1 1 3", "# a b / ^ c / ^ d e f"},
		{"a # b", "out 0 2 b", "a #"},
		{"a b", "in 0 1 a", "a a b"},
	} {
		l, e := proof.Applied(copyOf(c.copy), mark(c.mark))
		want(t, c.mark+" of "+c.copy, l, e, copyOf(c.behind), api.OK)
	}
}

// P8.2: marks that are not applied.
func TestNotApplied(t *testing.T) {
	for _, c := range []struct {
		copy, mark string
		e          api.Errno
	}{
		{"the quick fox", "out 0 3 dog", api.ErrMissing},
		{"the quick fox", "out 1 0 the", api.ErrMissing},
		{"the quick fox", "out 59 100 the", api.ErrMissing},
		{"the quick fox", "out 0 2 dog", api.ErrClash},
		{"the quick fox", "out 0 2 Fox", api.ErrClash},
		{"the quick fox", "out 0 2 fo", api.ErrClash},
		{"a", "out 0 0 a", api.ErrShape},
		{"a", "out 0 0 b", api.ErrClash},
		{"a # b", "out 0 0 a", api.ErrForm},
		{"x / a ^ b", "out 1 0 a", api.ErrForm},
		{"the quick fox", "in 0 4 very", api.ErrMissing},
		{"the quick fox", "in 1 0 very", api.ErrMissing},
		{"the quick fox", "in 0 0 #", api.ErrForm},
		{"x / # the", "in 1 0 ^", api.ErrForm},
		{"the quick fox", "change 0 3 fox dog", api.ErrMissing},
		{"the quick fox", "change 1 0 fox dog", api.ErrMissing},
		{"the quick fox", "change 0 1 fox dog", api.ErrClash},
		{"the quick fox", "change 0 0 quick the", api.ErrClash},
		{"the quick fox", "change 0 0 the ^", api.ErrForm},
		{"the quick fox", "swap 0 2", api.ErrMissing},
		{"the quick fox", "swap 0 3", api.ErrMissing},
		{"the quick fox", "swap 0 100", api.ErrMissing},
		{"the quick fox", "swap 1 0", api.ErrMissing},
		{"a", "swap 0 0", api.ErrMissing},
		{"a # b", "swap 0 0", api.ErrForm},
		{"the quick fox", "break 0 3 1", api.ErrMissing},
		{"the quick fox", "break 0 100 1", api.ErrMissing},
		{"the quick fox", "break 1 1 1", api.ErrMissing},
		{"a # b", "break 0 1 1", api.ErrForm},
		{"a ^", "break 0 1 2", api.ErrForm},
		{"the quick fox", "join 0 3 1", api.ErrMissing},
		{"the quick fox", "join 0 1 1", api.ErrMissing},
		{"the quick / fox", "join 1 1 1", api.ErrMissing},
		{"the quick / fox", "join 2 1 1", api.ErrMissing},
		{"the quick / fox", "join 0 1 1", api.ErrClash},
		{"the quick / fox", "join 0 3 1", api.ErrClash},
		{"the quick / fox", "join 0 2 2", api.ErrClash},
		{"the quick / # fox", "join 0 2 1", api.ErrClash},
		{"the quick fox", "turn 1 1 2", api.ErrMissing},
		{"the quick fox", "turn 0 2 1", api.ErrClash},
		{"# the quick fox", "turn 0 1 3", api.ErrClash},
	} {
		l, e := proof.Applied(copyOf(c.copy), mark(c.mark))
		want(t, c.mark+" of "+c.copy, l, e, nil, c.e)
	}
	l, e := proof.Applied(nil, mark("in 0 0 a"))
	want(t, "Applied to no parts", l, e, nil, api.ErrMissing)
}

// P8.2: copies at the limits of copies.
func TestAppliedAtLimits(t *testing.T) {
	full, sixty := []api.CopyPart{body(many(100)...)}, slices.Repeat([]api.CopyPart{body("a", "b")}, 60)
	for _, c := range []struct {
		l []api.CopyPart
		m string
		e api.Errno
	}{
		{full, "in 0 100 a", api.ErrLarge},
		{full, "in 0 0 #", api.ErrLarge},
		{full, "swap 0 98", api.OK},
		{full, "swap 0 99", api.ErrMissing},
		{full, "break 0 99 1", api.OK},
		{full, "break 0 100 1", api.ErrMissing},
		{full, "out 0 100 a", api.ErrMissing},
		{[]api.CopyPart{body(many(99)...)}, "in 0 99 a", api.OK},
		{[]api.CopyPart{body(many(60)...), body(many(40)...)}, "join 0 60 1", api.OK},
		{[]api.CopyPart{body(many(60)...), body(many(41)...)}, "join 0 60 1", api.ErrLarge},
		{[]api.CopyPart{body(many(100)...), body("a")}, "join 0 100 1", api.ErrLarge},
		{sixty, "break 59 1 1", api.ErrLarge},
		{sixty, "break 0 1 1", api.ErrLarge},
		{sixty, "in 59 2 a", api.OK},
		{sixty, "join 58 2 1", api.OK},
		{sixty, "join 59 2 1", api.ErrMissing},
		{sixty[1:], "break 58 1 1", api.OK},
	} {
		l, e := proof.Applied(c.l, mark(c.m))
		if e != c.e || (e == api.OK) != (len(l) > 0) {
			t.Errorf("%s: error %d, want %d", c.m, e, c.e)
		}
	}
}

// P8.2: several marks, and the first one that is not applied.
func TestAppliedAll(t *testing.T) {
	for _, c := range []struct {
		marks  []string
		behind string
		number int
		e      api.Errno
	}{
		{nil, "the quick fox", 0, api.OK},
		{[]string{"in 0 1 very", "out 0 3 fox"}, "the very quick", 0, api.OK},
		{[]string{"out 0 2 fox", "in 0 1 very"}, "the very quick", 0, api.OK},
		{[]string{"break 0 1 1", "join 0 1 1"}, "the quick fox", 0, api.OK},
		{[]string{"break 0 1 1", "break 1 1 2", "turn 0 1 3", "in 2 1 x"}, "^ the / quick / # fox x", 0, api.OK},
		{[]string{"out 0 0 the", "out 0 0 quick", "in 0 0 red", "in 0 0 a"}, "a red fox", 0, api.OK},
		{[]string{"out 0 0 quick", "out 0 9 the"}, "", 0, api.ErrClash},
		{[]string{"out 0 0 the", "out 0 1 quick"}, "", 1, api.ErrClash},
		{[]string{"out 0 0 the", "out 0 0 quick", "out 0 0 fox", "out 0 0 x"}, "", 2, api.ErrShape},
		{[]string{"in 0 1 #", "swap 0 1", "out 0 0 the", "in 0 3 #", "break 0 4 1"}, "", 4, api.ErrMissing},
		{[]string{"in 0 1 #", "out 0 0 the", "in 0 4 #"}, "", 1, api.ErrForm},
	} {
		l, n, e := proof.AppliedAll(fox(), marks(c.marks...))
		want(t, strings.Join(c.marks, ", "), l, e, copyOf(c.behind), c.e)
		want(t, "the number of "+strings.Join(c.marks, ", "), n, e, c.number, c.e)
	}
	swaps := slices.Repeat(marks("swap 0 0"), 60)
	l, n, e := proof.AppliedAll(fox(), append(swaps[1:], mark("out 1 0 a")))
	want(t, "AppliedAll of 60 marks", l, e, nil, api.ErrMissing)
	want(t, "AppliedAll of 60 marks, the number", n, e, 59, api.ErrMissing)
	l, _, e = proof.AppliedAll(fox(), swaps)
	want(t, "AppliedAll of 60 swaps", l, e, fox(), api.OK)
}

// P8.2: several marks are applied one by one.
func TestAppliedOneByOne(t *testing.T) {
	m := newMaker(6)
	for range 1000 {
		l := m.copy(3, 3)
		marks := m.proofOf(l, m.Intn(5), 3)
		marks = append(marks, m.mark(l, 3))
		wanted, wantedNumber, wantedError := l, 0, api.OK
		for i, x := range marks {
			if wanted, wantedError = proof.Applied(wanted, x); wantedError != api.OK {
				wantedNumber = i
				break
			}
		}
		got, n, e := proof.AppliedAll(l, marks)
		want(t, "AppliedAll", got, e, wanted, wantedError)
		want(t, "AppliedAll, the number", n, e, wantedNumber, wantedError)
	}
}

// P8.3: inverses.
func TestInverses(t *testing.T) {
	for _, c := range [][2]string{
		{"out 1 2 a", "in 1 2 a"},
		{"in 59 100 #", "out 59 100 #"},
		{"change 0 1 quick slow", "change 0 1 slow quick"},
		{"swap 3 4", "swap 3 4"},
		{"break 5 6 3", "join 5 6 3"},
		{"join 0 100 1", "break 0 100 1"},
		{"turn 7 1 2", "turn 7 2 1"},
	} {
		m, e := proof.Inverse(mark(c[0]))
		want(t, "Inverse of "+c[0], m, e, mark(c[1]), api.OK)
		m, e = proof.Inverse(mark(c[1]))
		want(t, "Inverse of "+c[1], m, e, mark(c[0]), api.OK)
	}
	l, e := proof.InverseAll(marks("out 0 0 a", "in 0 1 b", "turn 0 1 3", "break 1 1 1"))
	want(t, "InverseAll", l, e, marks("join 1 1 1", "turn 0 3 1", "out 0 1 b", "in 0 0 a"), api.OK)
	l, e = proof.InverseAll(nil)
	want(t, "InverseAll of none", l, e, nil, api.OK)
	var ins, outs []string
	for i := range 60 {
		ins = append(ins, "in 0 "+strconv.Itoa(i)+" a")
		outs = append(outs, "out 0 "+strconv.Itoa(59-i)+" a")
	}
	l, e = proof.InverseAll(marks(ins...))
	want(t, "InverseAll of 60 ins", l, e, marks(outs...), api.OK)
}
