package fount_test

import (
	"reflect"
	"slices"
	"strconv"
	"testing"

	"tympan/api"
	"tympan/fount"
)

// roman is the fount of the chapter's examples.
func roman() api.Fount {
	return api.Fount{Name: "rom", Body: 10, Sorts: []api.TypeSort{
		{Name: "a", Text: "a", Kind: api.SortLetter, Width: 300},
		{Name: "b", Text: "b", Kind: api.SortLetter, Width: 330},
		{Name: "fi", Text: "fi", Kind: api.SortLigature, Width: 360},
		{Name: "thick", Kind: api.SortSpace, Width: 200},
		{Name: "thin", Kind: api.SortSpace, Width: 120},
	}}
}

// wide is a fount of so many spaces, each as wide as a sort may be.
func wide(sorts int) api.Fount {
	f := api.Fount{Name: "wide", Body: api.MaxBody}
	for i := range sorts {
		f.Sorts = append(f.Sorts, api.TypeSort{Name: "s" + strconv.Itoa(i), Kind: api.SortSpace, Width: api.MaxWidth})
	}
	return f
}

// filled is a list of n equal numbers.
func filled(n, value int) []int {
	return slices.Repeat([]int{value}, n)
}

// badFounts has a fount for each error of the frame and of the sorts, with that error.
func badFounts() map[api.Errno]api.Fount {
	change := func(how func(f *api.Fount)) api.Fount {
		f := roman()
		how(&f)
		return f
	}
	return map[api.Errno]api.Fount{
		api.ErrName:   change(func(f *api.Fount) { f.Name = "" }),
		api.ErrRange:  change(func(f *api.Fount) { f.Body = 0 }),
		api.ErrShape:  change(func(f *api.Fount) { f.Sorts = nil }),
		api.ErrLarge:  wide(api.MaxSorts + 1),
		api.ErrExists: change(func(f *api.Fount) { f.Sorts[4].Name = "a" }),
		api.ErrKind:   change(func(f *api.Fount) { f.Sorts[4].Kind = 0 }),
		api.ErrForm:   change(func(f *api.Fount) { f.Sorts[4].Text = "x" }),
		api.ErrClash:  change(func(f *api.Fount) { f.Sorts[1].Text = "a" }),
	}
}

// call is a call of a function of the package with a fount and valid other arguments: its results
// but for the error, and the error.
type call struct {
	name string
	do   func(f api.Fount) ([]any, api.Errno)
}

func results(e api.Errno, r ...any) ([]any, api.Errno) {
	return r, e
}

// calls has every function that takes a fount. Beside an error only CheckFount and Taken have
// other results than zero values.
func calls(list, counts, need []int, needs [][]int) []call {
	return []call{
		{"CheckFount", func(f api.Fount) ([]any, api.Errno) { _, e := fount.CheckFount(f); return nil, e }},
		{"EmOf", func(f api.Fount) ([]any, api.Errno) { r, e := fount.EmOf(f); return results(e, r) }},
		{"PartOf", func(f api.Fount) ([]any, api.Errno) { r, e := fount.PartOf(f, 3); return results(e, r) }},
		{"Find", func(f api.Fount) ([]any, api.Errno) { r, e := fount.Find(f, "thick"); return results(e, r) }},
		{"Printing", func(f api.Fount) ([]any, api.Errno) { r, e := fount.Printing(f, "fi"); return results(e, r) }},
		{"Spaces", func(f api.Fount) ([]any, api.Errno) { r, e := fount.Spaces(f); return results(e, r) }},
		{"WidthOf", func(f api.Fount) ([]any, api.Errno) { r, e := fount.WidthOf(f, list); return results(e, r) }},
		{"TextOf", func(f api.Fount) ([]any, api.Errno) { r, e := fount.TextOf(f, list); return results(e, r) }},
		{"CheckCase", func(f api.Fount) ([]any, api.Errno) { return nil, fount.CheckCase(f, counts) }},
		{"NeedOf", func(f api.Fount) ([]any, api.Errno) { r, e := fount.NeedOf(f, list); return results(e, r) }},
		{"Joined", func(f api.Fount) ([]any, api.Errno) { r, e := fount.Joined(f, counts, need); return results(e, r) }},
		{"Taken", func(f api.Fount) ([]any, api.Errno) { r, n, e := fount.Taken(f, counts, need); return results(e, r, n) }},
		{"Lacking", func(f api.Fount) ([]any, api.Errno) { r, e := fount.Lacking(f, counts, need); return results(e, r) }},
		{"Times", func(f api.Fount) ([]any, api.Errno) { r, n, e := fount.Times(f, counts, need); return results(e, r, n) }},
		{"Enough", func(f api.Fount) ([]any, api.Errno) { r, e := fount.Enough(f, needs); return results(e, r) }},
		{"BillFor", func(f api.Fount) ([]any, api.Errno) { r, e := fount.BillFor(f, need, 10); return results(e, r) }},
		{"MetalOf", func(f api.Fount) ([]any, api.Errno) { r, e := fount.MetalOf(f, counts); return results(e, r) }},
		{"Cast", func(f api.Fount) ([]any, api.Errno) { r, n, e := fount.Cast(f, 20000, need); return results(e, r, n) }},
		{"Print", func(f api.Fount) ([]any, api.Errno) { r, e := fount.Print(f); return results(e, r) }},
		{"FormatCase", func(f api.Fount) ([]any, api.Errno) { r, e := fount.FormatCase(f, counts); return results(e, r) }},
		{"ParseCase", func(f api.Fount) ([]any, api.Errno) { r, e := fount.ParseCase(f, "a 3 thin 5"); return results(e, r) }},
	}
}

// isZero tells whether all results are zero values; an empty slice is one.
func isZero(results []any) bool {
	for _, r := range results {
		v := reflect.ValueOf(r)
		if v.Kind() == reflect.Slice {
			if v.Len() != 0 {
				return false
			}
		} else if !v.IsZero() {
			return false
		}
	}
	return true
}

// wantList fails the test if a list with an error is not the one that is wanted.
func wantList(t *testing.T, what string, got []int, e api.Errno, want []int, wantError api.Errno) {
	t.Helper()
	if e != wantError || !slices.Equal(got, want) {
		t.Errorf("%s: %v, error %d, want %v, error %d", what, got, e, want, wantError)
	}
}

// wantNumber does the same of a number.
func wantNumber(t *testing.T, what string, got int, e api.Errno, want int, wantError api.Errno) {
	t.Helper()
	if e != wantError || got != want {
		t.Errorf("%s: %d, error %d, want %d, error %d", what, got, e, want, wantError)
	}
}
