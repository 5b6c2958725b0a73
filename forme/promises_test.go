package forme_test

import (
	"fmt"
	"reflect"
	"slices"
	"testing"

	"tympan/api"
	"tympan/forme"
)

// call is a function of the package with some arguments; its results but for the error, and the error.
type call struct {
	name string
	do   func(x arguments) ([]any, api.Errno)
}

// arguments is what the functions take.
type arguments struct {
	f       api.Forme
	r       api.FormeReal
	g       api.FormeGrid
	c       api.FormeChain
	at      [2]int
	stock   []api.Furniture
	length  int
	numbers []int
	labels  [][]int
}

// rightArguments is mostly those of the examples.
func rightArguments() arguments {
	return arguments{
		f:       locked(),
		r:       realWith(func(r *api.FormeReal) { r.Travel[3], r.Travel[4] = 5, 5 }),
		g:       grid(),
		c:       api.FormeChain{Pieces: []int{0, 1, 3}},
		at:      [2]int{9, 5},
		stock:   stockOf(2, 3, 5, 1),
		length:  7,
		numbers: []int{1, 1},
		labels:  greatest(stockOf(2, 3, 5, 1), 7),
	}
}

func results(e api.Errno, r ...any) ([]any, api.Errno) {
	return r, e
}

// formeCalls is all functions that take a forme first.
func formeCalls() []call {
	type a = arguments
	return []call{
		{"FirstGap", func(x a) ([]any, api.Errno) { p, e := forme.FirstGap(x.f); return results(e, p) }},
		{"Uncovered", func(x a) ([]any, api.Errno) { n, e := forme.Uncovered(x.f); return results(e, n) }},
		{"PieceAt", func(x a) ([]any, api.Errno) { n, e := forme.PieceAt(x.f, x.at[0], x.at[1]); return results(e, n) }},
		{"RowAt", func(x a) ([]any, api.Errno) { l, e := forme.RowAt(x.f, x.at[1]); return results(e, l) }},
		{"ColumnAt", func(x a) ([]any, api.Errno) { l, e := forme.ColumnAt(x.f, x.at[0]); return results(e, l) }},
		{"Turned", func(x a) ([]any, api.Errno) { f, e := forme.Turned(x.f); return results(e, f) }},
		{"Mirrored", func(x a) ([]any, api.Errno) { f, e := forme.Mirrored(x.f); return results(e, f) }},
		{"Bill", func(x a) ([]any, api.Errno) { l, e := forme.Bill(x.f); return results(e, l) }},
		{"CheckReal", func(x a) ([]any, api.Errno) { n, e := forme.CheckReal(x.f, x.r); return results(e, n) }},
		{"LongestAcross", func(x a) ([]any, api.Errno) { n, l, e := forme.LongestAcross(x.f, x.r); return results(e, n, l) }},
		{"LongestDown", func(x a) ([]any, api.Errno) { n, l, e := forme.LongestDown(x.f, x.r); return results(e, n, l) }},
		{"CheckChain", func(x a) ([]any, api.Errno) { n, e := forme.CheckChain(x.f, x.r, x.c); return results(e, n) }},
		{"Held", func(x a) ([]any, api.Errno) { l, e := forme.Held(x.f, x.r); return results(e, l) }},
		{"Loose", func(x a) ([]any, api.Errno) { l, e := forme.Loose(x.f, x.r); return results(e, l) }},
		{"Driven", func(x a) ([]any, api.Errno) { r, e := forme.Driven(x.f, x.r); return results(e, r) }},
		{"Print", func(x a) ([]any, api.Errno) { s, e := forme.Print(x.f); return results(e, s) }},
	}
}

// calls is all functions that take arguments with slices, or give results with slices.
func calls() []call {
	type a = arguments
	return append(formeCalls(), []call{
		{"CheckForme", func(x a) ([]any, api.Errno) { n, e := forme.CheckForme(x.f); return results(e, n) }},
		{"Layout", func(x a) ([]any, api.Errno) { f, e := forme.Layout(x.g); return results(e, f) }},
		{"FillLength", func(x a) ([]any, api.Errno) {
			counts, labels, e := forme.FillLength(x.stock, x.length)
			return results(e, counts, labels)
		}},
		{"CheckFilling", func(x a) ([]any, api.Errno) {
			n, e := forme.CheckFilling(x.stock, x.length, x.numbers)
			return results(e, n)
		}},
		{"CheckFillLabels", func(x a) ([]any, api.Errno) {
			n, e := forme.CheckFillLabels(x.stock, x.length, x.labels)
			return results(e, n)
		}},
		{"Parse", func(x a) ([]any, api.Errno) { f, n, e := forme.Parse(lockedText); return results(e, f, n) }},
	}...)
}

// isZero tells whether all results are zero values; an empty slice is one.
func isZero(results []any) bool {
	for _, r := range results {
		if !alike(r, reflect.Zero(reflect.TypeOf(r)).Interface()) {
			return false
		}
	}
	return true
}

// P1, R1: the error of a forme comes first in all functions that take one, with zero values beside it.
func TestErrorsOfFormes(t *testing.T) {
	for _, w := range wrongFormes() {
		for _, x := range []arguments{{f: w.f}, {f: w.f, at: [2]int{small, great}, r: lockedReal(), c: api.FormeChain{Pieces: []int{-1}}}} {
			for _, c := range formeCalls() {
				if r, e := c.do(x); e != w.e || !isZero(r) {
					t.Errorf("%s, %s: %v, error %d, want %d", c.name, w.what, r, e, w.e)
				}
			}
		}
	}
}

// P1, R1: what is wrong in all ways ends, with an error and with zero values.
func TestZeroBesideErrors(t *testing.T) {
	p := pieceOf("p", small, great, small, great, small)
	wrong := arguments{
		f:       formeOf(great, small, p),
		r:       realOf(small, great, small),
		g:       api.FormeGrid{Width: 4000, Height: 4000, Columns: []int{great}, Rows: []int{small}, Across: []int{great, great}, Down: []int{small, small}, Quoin: great},
		c:       api.FormeChain{Pieces: []int{small, great}, Down: true},
		at:      [2]int{small, great},
		stock:   stockOf(great, small),
		length:  great,
		numbers: []int{small},
		labels:  [][]int{{great}, {small}},
	}
	empty := arguments{length: -1}
	for _, x := range []arguments{wrong, empty} {
		for _, c := range calls() {
			if r, e := c.do(x); c.name != "Parse" && (e == api.OK || !isZero(r)) {
				t.Errorf("%s of wrong arguments: %v, error %d", c.name, r, e)
			}
		}
	}
}

// spoil writes into all numbers of a value that can be written, up to the capacity of its slices.
func spoil(v reflect.Value) {
	switch v.Kind() {
	case reflect.Slice:
		v = v.Slice(0, v.Cap())
		for i := range v.Len() {
			spoil(v.Index(i))
		}
	case reflect.Array:
		for i := range v.Len() {
			spoil(v.Index(i))
		}
	case reflect.Struct:
		for i := range v.NumField() {
			spoil(v.Field(i))
		}
	case reflect.Int:
		if v.CanSet() {
			v.SetInt(-7)
		}
	}
}

// R3, R4: no call writes into its arguments, and results share no memory with arguments or with the
// results of other calls.
func TestNothingIsShared(t *testing.T) {
	x := rightArguments()
	was := fmt.Sprint(x)
	for _, c := range calls() {
		first, e := c.do(x)
		if e != api.OK && c.name != "FirstGap" {
			t.Errorf("%s: error %d", c.name, e)
		}
		text := fmt.Sprint(first)
		for _, r := range first {
			spoil(reflect.ValueOf(r))
		}
		if second, again := c.do(x); again != e || fmt.Sprint(second) != text {
			t.Errorf("%s once more: %v, %d, first %s", c.name, second, again, text)
		}
		if fmt.Sprint(x) != was {
			t.Fatalf("%s has written into its arguments", c.name)
		}
	}
}

// R3: no two slices of a result share memory.
func TestResultsShareNothing(t *testing.T) {
	x := rightArguments()
	_, labels, e := forme.FillLength(x.stock, 8)
	want(t, "FillLength of what cannot be filled", len(labels), e, 3, api.ErrNone)
	for k, row := range labels {
		others := slices.Delete(slices.Clone(labels), k, k+1)
		was := fmt.Sprint(others)
		spoil(reflect.ValueOf(row))
		if fmt.Sprint(others) != was {
			t.Errorf("row %d shares memory with another one: %v", k, labels)
		}
	}
	same := []int{60, 60}
	f := formeOf(2, 2, quoinAcross("a", 0, 0, 1, 2), quoinDown("b", 1, 0, 1, 2))
	r, e := forme.Driven(f, api.FormeReal{Widths: same, Heights: same, Travel: same})
	want(t, "Driven of one slice three times", r, e, api.FormeReal{Widths: []int{60, 60}, Heights: []int{60, 120}, Travel: []int{60, 0}}, api.OK)
	spoil(reflect.ValueOf(r.Widths))
	want(t, "the heights", r.Heights, e, []int{60, 120}, api.OK)
	want(t, "the ways", r.Travel, e, []int{60, 0}, api.OK)
	want(t, "the argument", same, e, []int{60, 60}, api.OK)
}
