package impose_test

import (
	"fmt"
	"reflect"
	"slices"
	"testing"

	"tympan/api"
	"tympan/impose"
)

// call is a function of the package with some arguments; its results but for the error, and the error.
type call struct {
	name string
	do   func(x arguments) ([]any, api.Errno)
}

// arguments is what the functions take.
type arguments struct {
	sheet   [2]int
	folds   []api.ImposeFold
	s       api.ImposeScheme
	v       api.ImposeView
	b       api.ImposeBook
	numbers []int
}

// rightArguments is mostly those of the examples.
func rightArguments() arguments {
	return arguments{
		sheet:   [2]int{2, 2},
		folds:   folds(left(1), up(1)),
		s:       quarto(),
		v:       viewOf(2, 2, 3, 0, 2, 0, 1, 0, 4, 0),
		b:       bookOf(20, 8, []int{0, 2}, []int{3}),
		numbers: []int{0, 2, 1},
	}
}

// calls is all functions that take arguments with slices, or give results with slices.
func calls() []call {
	type a = arguments
	return slices.Concat(viewCalls(), []call{
		{"CheckFolds", func(x a) ([]any, api.Errno) { n, e := impose.CheckFolds(x.sheet, x.folds); return results(e, n) }},
		{"Pile", func(x a) ([]any, api.Errno) { l, e := impose.Pile(x.sheet, x.folds); return results(e, l) }},
		{"SchemeOf", func(x a) ([]any, api.Errno) { s, e := impose.SchemeOf(x.sheet, x.folds); return results(e, s) }},
		{"CheckScheme", func(x a) ([]any, api.Errno) { n, e := impose.CheckScheme(x.s); return results(e, n) }},
		{"Reads", func(x a) ([]any, api.Errno) { l, e := impose.Reads(x.s, x.folds); return results(e, l) }},
		{"FoldsFor", func(x a) ([]any, api.Errno) { l, e := impose.FoldsFor(x.s); return results(e, l) }},
		{"CheckBook", func(x a) ([]any, api.Errno) { n, e := impose.CheckBook(x.b); return results(e, n) }},
		{"Signatures", func(x a) ([]any, api.Errno) { l, n, e := impose.Signatures(x.b); return results(e, l, n) }},
		{"Bound", func(x a) ([]any, api.Errno) { l, e := impose.Bound(x.b); return results(e, l) }},
		{"FirstMisplaced", func(x a) ([]any, api.Errno) { n, e := impose.FirstMisplaced(x.numbers); return results(e, n) }},
		{"FormatFolds", func(x a) ([]any, api.Errno) { return results(api.OK, impose.FormatFolds(x.folds)) }},
		{"ParseFolds", func(x a) ([]any, api.Errno) { l, e := impose.ParseFolds("L1 U1 O"); return results(e, l) }},
		{"Print", func(x a) ([]any, api.Errno) { s, e := impose.Print(x.s); return results(e, s) }},
		{"Parse", func(x a) ([]any, api.Errno) {
			s, n, e := impose.Parse("2 1\n3/0/4/0 2/0/1/0\n")
			return results(e, s, n)
		}},
	})
}

func viewCalls() []call {
	type a = arguments
	calls := []call{
		{"FrontView", func(x a) ([]any, api.Errno) { v, e := impose.FrontView(x.s); return results(e, v) }},
		{"BackView", func(x a) ([]any, api.Errno) { v, e := impose.BackView(x.s); return results(e, v) }},
	}
	for _, tumble := range []bool{false, true} {
		calls = append(calls, []call{
			{"Combined", func(x a) ([]any, api.Errno) { v, e := impose.Combined(x.s, tumble); return results(e, v) }},
			{"PrintedTwice", func(x a) ([]any, api.Errno) { s, e := impose.PrintedTwice(x.v, tumble); return results(e, s) }},
			{"Halves", func(x a) ([]any, api.Errno) { s, e := impose.Halves(x.s, tumble); return results(e, s) }},
		}...)
	}
	return calls
}

// spoil writes into all numbers of a value that can be written, up to the capacity of its slices.
func spoil(v reflect.Value) {
	switch v.Kind() {
	case reflect.Slice:
		v = v.Slice(0, v.Cap())
		for i := range v.Len() {
			spoil(v.Index(i))
		}
	case reflect.Array:
		for i := range v.Len() {
			spoil(v.Index(i))
		}
	case reflect.Struct:
		for i := range v.NumField() {
			spoil(v.Field(i))
		}
	case reflect.Int:
		if v.CanSet() {
			v.SetInt(-7)
		}
	}
}

// R3, R4: no call writes into its arguments, and results share no memory with arguments or with the
// results of other calls.
func TestNothingIsShared(t *testing.T) {
	x := rightArguments()
	was := fmt.Sprint(x)
	for _, c := range calls() {
		first, e := c.do(x)
		if e != api.OK {
			t.Errorf("%s: error %d", c.name, e)
		}
		text := fmt.Sprint(first)
		for _, r := range first {
			spoil(reflect.ValueOf(r))
		}
		if second, e := c.do(x); e != api.OK || fmt.Sprint(second) != text {
			t.Errorf("%s once more: %v, %d, first %s", c.name, second, e, text)
		}
		if fmt.Sprint(x) != was {
			t.Fatalf("%s has written into its arguments", c.name)
		}
	}
}

// R3: the two halves of a sheet share no memory.
func TestHalvesShareNothing(t *testing.T) {
	for _, down := range []bool{false, true} {
		halves, _ := impose.Halves(quarto(), down)
		was := fmt.Sprint(halves[1])
		spoil(reflect.ValueOf(halves[0].Cells))
		if fmt.Sprint(halves[1]) != was {
			t.Errorf("the halves share memory: %v", halves)
		}
	}
}

// P1, R1: beside an error there are zero values, of all functions for which no number is named; what
// is wrong in all ways ends, with an error.
func TestZeroBesideErrors(t *testing.T) {
	wrong := arguments{
		sheet:   [2]int{small, great},
		folds:   folds(api.ImposeFold{Kind: small, Count: small}),
		s:       schemeOf(great, great, [4]int{great, small, great, small}),
		v:       viewOf(small, great, great, small),
		b:       bookOf(small, great, []int{small}, []int{great}),
		numbers: []int{small, great},
	}
	isRight := []string{"FormatFolds", "ParseFolds", "Parse"}
	for _, x := range []arguments{wrong, {}} {
		for _, c := range calls() {
			if slices.Contains(isRight, c.name) {
				continue
			}
			if r, e := c.do(x); e == api.OK || !isZero(r) {
				t.Errorf("%s of wrong arguments: %v, error %d", c.name, r, e)
			}
		}
	}
}
