package paragraph_test

import (
	"fmt"
	"reflect"
	"slices"
	"testing"

	"tympan/api"
	"tympan/paragraph"
)

// otherCalls is the functions that are in neither list of those that take words, and CheckRules and
// CheckWords.
func otherCalls() []call {
	type a = arguments
	return []call{
		{"CheckRules", func(x a) ([]any, api.Errno) { return nil, paragraph.CheckRules(x.f, x.r) }},
		{"CheckWords", func(x a) ([]any, api.Errno) { n, e := paragraph.CheckWords(x.f, x.words); return results(e, n) }},
		{"Joined", func(x a) ([]any, api.Errno) { r, e := paragraph.Joined(x.f, x.lines, x.broken); return results(e, r) }},
		{"SameLines", func(x a) ([]any, api.Errno) { return results(api.OK, paragraph.SameLines(x.lines, x.lines)) }},
		{"FormatWord", func(x a) ([]any, api.Errno) { return results(api.OK, paragraph.FormatWord(x.words[2])) }},
		{"ParseWord", func(x a) ([]any, api.Errno) { r, e := paragraph.ParseWord("0 0/1"); return results(e, r) }},
	}
}

// spoil writes into all numbers and flags of a value that can be written, up to the capacity of its
// slices.
func spoil(v reflect.Value) {
	switch v.Kind() {
	case reflect.Slice:
		v = v.Slice(0, v.Cap())
		for i := range v.Len() {
			spoil(v.Index(i))
		}
	case reflect.Struct:
		for i := range v.NumField() {
			spoil(v.Field(i))
		}
	case reflect.Int:
		if v.CanSet() {
			v.SetInt(-7)
		}
	case reflect.Bool:
		if v.CanSet() {
			v.SetBool(!v.Bool())
		}
	}
}

// R3, R4: no call writes into its arguments, and results share no memory with arguments or with
// the results of other calls.
func TestNothingIsShared(t *testing.T) {
	x := rightArguments()
	was := fmt.Sprint(x)
	for _, c := range slices.Concat(rulesCalls(), wordsCalls(), otherCalls()) {
		want := api.OK
		if c.name == "Lacks" {
			want = api.ErrNone
		}
		first, e := c.do(x)
		if e != want {
			t.Errorf("%s: error %d", c.name, e)
		}
		text := fmt.Sprint(first)
		for _, r := range first {
			spoil(reflect.ValueOf(r))
		}
		if second, e := c.do(x); e != want || fmt.Sprint(second) != text {
			t.Errorf("%s once more: %v, %d, first %s", c.name, second, e, text)
		}
		if fmt.Sprint(x) != was {
			t.Fatalf("%s has written into its arguments", c.name)
		}
	}
}

// R3: no two slices within a result share memory.
func TestResultsShareNothing(t *testing.T) {
	words := []api.ParagraphWord{everywhere(0, 1, 2, 0), word(1, 1), word(2)}
	pieces, _ := paragraph.LineAt(roman(), rules(), words, [2]int{1, 6})
	within, _ := paragraph.LineAt(roman(), rules(), words, [2]int{0, 2})
	joined, _ := paragraph.Joined(roman(), []api.TypeLine{lineOf(1, 0, 3, 1, 5), lineOf(1, 2, 2, 5), lineOf(1, 0, 3, 1)}, []bool{true, true, false})
	breaks, labels, _, _ := paragraph.Best(roman(), rules(), four())
	parsed, _ := paragraph.ParseWord("1 2 3/1 2")
	set, _, _ := paragraph.Set(roman(), same(20, 6), rules(), four())
	var lines [][]int
	for _, l := range set {
		lines = append(lines, l.Sorts)
	}
	for _, lists := range [][][]int{pieces, within, joined, {breaks, labels}, {parsed.Sorts, parsed.Breaks}, lines} {
		want := make([][]int, len(lists))
		for i, l := range lists {
			want[i] = slices.Clone(l)
		}
		for i, l := range lists {
			lists[i] = append(l, -7)
		}
		for i, l := range lists {
			if len(want[i]) == 0 || !slices.Equal(l[:len(l)-1], want[i]) {
				t.Errorf("%v: one list has written into another one, or is empty", lists)
			}
			for j := range l {
				l[j] = -7 - i
			}
		}
		for i, l := range lists {
			if slices.ContainsFunc(l, func(n int) bool { return n != -7-i }) {
				t.Errorf("%v: lists share memory", lists)
			}
		}
	}
}

// P4.7: no right breaks have less demerits than the last one of right labels; those of Best have not
// more than those of Greedy, or of any number of lines.
func TestLeastDemerits(t *testing.T) {
	m := newMaker(8)
	greedy := 0
	for range 400 {
		x := m.text()
		_, labels, _, e := paragraph.Best(x.f, x.r, x.words)
		bound, e2 := paragraph.CheckLabels(x.f, x.r, x.words, labels)
		if e2 != api.OK || (bound == most) != (e == api.ErrNone) {
			t.Errorf("Best of %v: labels %v, error %d, %d", x, labels, e, e2)
		}
		x.each(func(breaks []int) {
			if d, e := paragraph.CheckBreaks(x.f, x.r, x.words, breaks); e == api.OK && d < bound {
				t.Errorf("%v at %v: %d demerits, but the label %d", x, breaks, d, bound)
			}
		})
		if breaks, e := paragraph.Greedy(x.f, x.r, x.words); e == api.OK {
			greedy++
			if d, e := paragraph.CheckBreaks(x.f, x.r, x.words, breaks); e != api.OK || d < bound {
				t.Errorf("Greedy of %v: %v, %d demerits, error %d, but the label %d", x, breaks, d, e, bound)
			}
		}
	}
	if greedy < 50 {
		t.Errorf("only %d breaks by Greedy", greedy)
	}
}

// P4.10: with a greater penalty for hyphens the demerits are not less.
func TestGreaterPenalties(t *testing.T) {
	m := newMaker(9)
	greater := 0
	for range 1000 {
		x := m.text()
		_, _, was, e := paragraph.Best(x.f, x.r, x.words)
		x.r.Single += m.Intn(20)
		x.r.Double += m.Intn(20)
		_, _, is, e2 := paragraph.Best(x.f, x.r, x.words)
		if e != e2 || is < was {
			t.Errorf("Best of %v: %d, error %d, with lesser penalties %d, error %d", x, is, e2, was, e)
		}
		if is > was {
			greater++
		}
	}
	if greater < 50 {
		t.Errorf("only %d paragraphs with hyphens", greater)
	}
}
