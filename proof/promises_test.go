package proof_test

import (
	"fmt"
	"reflect"
	"testing"

	"tympan/api"
	"tympan/proof"
)

// arguments is what the functions take.
type arguments struct {
	copies [2][]api.CopyPart
	m, n   api.ProofMark
	lists  [2][]api.ProofMark
	number int
	words  [2][]string
	edits  []api.WordEdit
	labels []int
	sorts  [2][]int
	text   string
}

// call is a function of the package with some arguments; its results but for the error, and the error.
type call struct {
	name string
	do   func(x arguments) ([]any, api.Errno)
}

func results(e api.Errno, r ...any) ([]any, api.Errno) {
	return r, e
}

// calls is all functions but CheckMark and FormatMark.
func calls() []call {
	type a = arguments
	return []call{
		{"Applied", func(x a) ([]any, api.Errno) { l, e := proof.Applied(x.copies[0], x.m); return results(e, l) }},
		{"Applied, a break", func(x a) ([]any, api.Errno) { l, e := proof.Applied(x.copies[0], x.n); return results(e, l) }},
		{"AppliedAll", func(x a) ([]any, api.Errno) {
			l, n, e := proof.AppliedAll(x.copies[0], x.lists[0])
			return results(e, l, n)
		}},
		{"AppliedAll of none", func(x a) ([]any, api.Errno) {
			l, n, e := proof.AppliedAll(x.copies[0], nil)
			return results(e, l, n)
		}},
		{"Inverse", func(x a) ([]any, api.Errno) { m, e := proof.Inverse(x.m); return results(e, m) }},
		{"InverseAll", func(x a) ([]any, api.Errno) { l, e := proof.InverseAll(x.lists[0]); return results(e, l) }},
		{"Swapped", func(x a) ([]any, api.Errno) { l, e := proof.Swapped(x.m, x.n); return results(e, l) }},
		{"Stet", func(x a) ([]any, api.Errno) { l, n, e := proof.Stet(x.lists[0], x.number); return results(e, l, n) }},
		{"Merged", func(x a) ([]any, api.Errno) {
			l, n, e := proof.Merged(x.lists[0], x.lists[1])
			return results(e, l, n)
		}},
		{"LeastEdits", func(x a) ([]any, api.Errno) {
			l, n, e := proof.LeastEdits(x.words[0], x.words[1])
			return results(e, l, n)
		}},
		{"CheckEdits", func(x a) ([]any, api.Errno) {
			n, e := proof.CheckEdits(x.words[0], x.words[1], x.edits)
			return results(e, n)
		}},
		{"CheckEditLabels", func(x a) ([]any, api.Errno) {
			n, e := proof.CheckEditLabels(x.words[0], x.words[1], x.labels)
			return results(e, n)
		}},
		{"MarksOf", func(x a) ([]any, api.Errno) {
			l, e := proof.MarksOf(x.words[0], x.words[1], x.number)
			return results(e, l)
		}},
		{"TypeMoves", func(x a) ([]any, api.Errno) { l, e := proof.TypeMoves(x.sorts[0], x.sorts[1]); return results(e, l) }},
		{"Kept", func(x a) ([]any, api.Errno) { l, e := proof.Kept(x.sorts[0], x.sorts[1]); return results(e, l) }},
		{"FirstChanged", func(x a) ([]any, api.Errno) {
			l, e := proof.FirstChanged(x.copies[0], x.copies[1])
			return results(e, l)
		}},
		{"ParseMark", func(x a) ([]any, api.Errno) { m, e := proof.ParseMark(x.text); return results(e, m) }},
		{"Print", func(x a) ([]any, api.Errno) { s, e := proof.Print(x.lists[0]); return results(e, s) }},
		{"Parse", func(x a) ([]any, api.Errno) { l, n, e := proof.Parse(x.text + "\n"); return results(e, l, n) }},
	}
}

// rightArguments is mostly those of the examples.
func rightArguments() arguments {
	return arguments{
		copies: [2][]api.CopyPart{copyOf("the quick fox / # a"), copyOf("the red fox")},
		m:      mark("in 0 1 very"),
		n:      mark("break 0 2 1"),
		lists:  [2][]api.ProofMark{marks("in 0 1 very", "out 0 3 fox", "turn 1 2 1"), marks("change 0 0 the a", "swap 3 3")},
		words:  [2][]string{{"the", "quick", "fox"}, {"a", "quick", "red", "fox"}},
		edits:  []api.WordEdit{edit(0, 0), edit(1, 1), edit(-1, 2), edit(2, 3)},
		labels: make([]int, 20),
		sorts:  [2][]int{{3, 1, 2, 1}, {1, 2, 4}},
		text:   "out 0 0 a",
	}
}

// isZero tells whether all results are zero values; an empty slice is one.
func isZero(results []any) bool {
	for _, r := range results {
		if !alike(r, reflect.Zero(reflect.TypeOf(r)).Interface()) {
			return false
		}
	}
	return true
}

// P1, R1, R2: what is wrong in all ways ends, with an error and with zero values.
func TestZeroBesideErrors(t *testing.T) {
	m := api.ProofMark{Mark: small, Part: great, Word: small, Old: "\n", Was: great}
	wrong := arguments{
		copies: [2][]api.CopyPart{{{Kind: great}}, {{Kind: small}}},
		m:      m,
		n:      m,
		lists:  [2][]api.ProofMark{{m}, {m, m}},
		number: great,
		words:  [2][]string{{""}, {"\x00"}},
		edits:  []api.WordEdit{edit(great, small)},
		labels: []int{great},
		sorts:  [2][]int{make([]int, 1000), make([]int, 301)},
		text:   "out 0 0 \x00",
	}
	for _, c := range calls() {
		if r, e := c.do(wrong); c.name != "Parse" && c.name != "AppliedAll of none" && (e == api.OK || !isZero(r)) {
			t.Errorf("%s of wrong arguments: %v, error %d", c.name, r, e)
		}
		if r, e := c.do(arguments{number: -1}); e != api.OK && c.name != "Parse" && !isZero(r) {
			t.Errorf("%s of nothing: %v, error %d", c.name, r, e)
		}
	}
}

// spoil writes into all that can be written of a value, up to the capacity of its slices.
func spoil(v reflect.Value) {
	switch v.Kind() {
	case reflect.Slice:
		v = v.Slice(0, v.Cap())
		for i := range v.Len() {
			spoil(v.Index(i))
		}
	case reflect.Array:
		for i := range v.Len() {
			spoil(v.Index(i))
		}
	case reflect.Struct:
		for i := range v.NumField() {
			spoil(v.Field(i))
		}
	case reflect.Int:
		if v.CanSet() {
			v.SetInt(-7)
		}
	case reflect.String:
		if v.CanSet() {
			v.SetString("spoilt")
		}
	}
}

// R3, R4: no call writes into its arguments, and results share no memory with arguments or with the
// results of other calls.
func TestNothingIsShared(t *testing.T) {
	x := rightArguments()
	was := fmt.Sprint(x)
	for _, c := range calls() {
		first, e := c.do(x)
		if e != api.OK {
			t.Errorf("%s: error %d", c.name, e)
		}
		text := fmt.Sprint(first)
		for _, r := range first {
			spoil(reflect.ValueOf(r))
		}
		if second, again := c.do(x); again != e || fmt.Sprint(second) != text {
			t.Errorf("%s once more: %v, %d, first %s", c.name, second, again, text)
		}
		if fmt.Sprint(x) != was {
			t.Fatalf("%s has written into its arguments", c.name)
		}
	}
}

// R3: what stands behind the end of an argument is not written into either, and a list that comes back
// as it is comes back in other memory.
func TestSpareMemory(t *testing.T) {
	six := marks("in 0 1 a", "out 0 2 b", "swap 0 4", "swap 1 0", "swap 1 1", "swap 1 2")
	words := []string{"a", "b", "c", "d"}
	was := fmt.Sprint(six, words)
	l := []api.CopyPart{body(words[:2]...), body("x")}
	for _, m := range []string{"in 0 2 y", "join 0 2 1", "break 0 1 1", "out 0 0 a"} {
		parts, e := proof.Applied(l[:2:2], mark(m))
		want(t, m, e, e, api.OK, api.OK)
		spoil(reflect.ValueOf(parts))
	}
	for _, both := range [][2][]api.ProofMark{{six[:2], six[3:4]}, {six[:2], nil}, {nil, six[:2]}} {
		merged, _, e := proof.Merged(both[0], both[1])
		want(t, "Merged", len(merged), e, len(both[0])+len(both[1]), api.OK)
		spoil(reflect.ValueOf(merged))
	}
	for number := range 3 {
		rest, _, e := proof.Stet(six[:3], number)
		want(t, "Stet", len(rest), e, 2, api.OK)
		spoil(reflect.ValueOf(rest))
	}
	if now := fmt.Sprint(six, words); now != was {
		t.Errorf("arguments are %s, were %s", now, was)
	}
}

// R3: no two slices of a result share memory.
func TestPartsShareNothing(t *testing.T) {
	for _, s := range []string{"swap 0 0", "break 0 1 1", "break 0 2 3", "join 0 3 2", "turn 1 2 1", "out 0 0 the"} {
		l, e := proof.Applied(copyOf("the quick fox / # a / b c"), mark(s))
		want(t, s, 0, e, 0, api.OK)
		for i := range l {
			was := fmt.Sprint(l[:i], l[i+1:])
			spoil(reflect.ValueOf(l[i].Words))
			if now := fmt.Sprint(l[:i], l[i+1:]); now != was {
				t.Errorf("behind %q the words of the part %d are written into others: %s, were %s", s, i, now, was)
			}
		}
	}
}
