package text_test

import (
	"fmt"
	"reflect"
	"slices"
	"strconv"
	"testing"

	"tympan/api"
	"tympan/text"
)

// fountOf makes a fount of one sort for each text; an empty text is a space.
func fountOf(texts ...string) api.Fount {
	f := api.Fount{Name: "made", Body: 10}
	for i, s := range texts {
		kind := api.SortLigature
		switch len(s) {
		case 0:
			kind = api.SortSpace
		case 1:
			kind = api.SortLetter
		}
		f.Sorts = append(f.Sorts, api.TypeSort{Name: "s" + strconv.Itoa(i), Text: s, Kind: kind, Width: 100 + i})
	}
	return f
}

// office is the fount of the chapter's examples: e f i l u s h - ff fi ffi fl and a space.
func office() api.Fount {
	return fountOf("e", "f", "i", "l", "u", "s", "h", "-", "ff", "fi", "ffi", "fl", "")
}

// examples is the rules of the chapter's examples, with more exceptions.
func examples(exceptions ...string) api.TextRules {
	return api.TextRules{Patterns: []string{"a1b", "2bl", "b3l"}, Exceptions: exceptions, Bars: []string{"shelf|ful"}, Left: 2, Right: 2}
}

// plain is rules without anything to look up.
func plain() api.TextRules {
	return api.TextRules{Left: 1, Right: 1}
}

// badFounts and badRules have values with an error, by this error.
func badFounts() map[api.Errno]api.Fount {
	long := make([]string, api.MaxSorts+1)
	return map[api.Errno]api.Fount{
		api.ErrName:  {Body: 10, Sorts: office().Sorts},
		api.ErrRange: {Name: "x", Sorts: office().Sorts},
		api.ErrShape: {Name: "x", Body: 10},
		api.ErrLarge: fountOf(long...),
		api.ErrClash: fountOf("a", "b", "a"),
	}
}

func badRules() map[api.Errno]api.TextRules {
	return map[api.Errno]api.TextRules{
		api.ErrForm:   {Patterns: []string{"a1b", ""}, Left: 1, Right: 1},
		api.ErrLarge:  {Bars: slices.Repeat([]string{"a|b"}, api.MaxRuleWords+1), Left: 1, Right: 1},
		api.ErrExists: {Exceptions: []string{"a-b", "ab"}, Left: 1, Right: 1},
		api.ErrRange:  {Left: 0, Right: 1},
	}
}

// isZero tells whether all results are zero values; an empty slice is one.
func isZero(results []any) bool {
	for _, r := range results {
		v := reflect.ValueOf(r)
		if v.Kind() == reflect.Slice {
			if v.Len() != 0 {
				return false
			}
		} else if !v.IsZero() {
			return false
		}
	}
	return true
}

// wantList fails the test if a list with an error is not the one that is wanted.
func wantList(t *testing.T, what string, got []int, e api.Errno, want []int, wantError api.Errno) {
	t.Helper()
	if e != wantError || !slices.Equal(got, want) {
		t.Errorf("%s: %v, error %d, want %v, error %d", what, got, e, want, wantError)
	}
}

// wantNumber does the same of a number.
func wantNumber(t *testing.T, what string, got int, e api.Errno, want int, wantError api.Errno) {
	t.Helper()
	if e != wantError || got != want {
		t.Errorf("%s: %d, error %d, want %d, error %d", what, got, e, want, wantError)
	}
}

// alikeParts compares copies; a nil list and an empty one are the same.
func alikeParts(a, b []api.CopyPart) bool {
	return slices.EqualFunc(a, b, func(x, y api.CopyPart) bool {
		return x.Kind == y.Kind && slices.Equal(x.Words, y.Words)
	})
}

func alikeRules(a, b api.TextRules) bool {
	return slices.Equal(a.Patterns, b.Patterns) && slices.Equal(a.Exceptions, b.Exceptions) &&
		slices.Equal(a.Bars, b.Bars) && a.Left == b.Left && a.Right == b.Right
}

// call is a call of a function of the package with a fount and rules and valid other arguments:
// its results but for the error, and the error.
type call struct {
	name string
	// What it takes and checks first.
	fount, rules, word bool
	do                 func(f api.Fount, r api.TextRules, a args) ([]any, api.Errno)
}

// args is what a call takes beside founts and rules.
type args struct {
	word   string
	words  []string
	parts  []api.CopyPart
	sorts  []int
	lines  []api.TypeLine
	broken []bool
}

func rightArgs() args {
	return args{
		word:   "shelfful",
		words:  []string{"shelfful", "effie"},
		parts:  []api.CopyPart{{Kind: api.CopyNote, Words: []string{"shelfful", "effie"}}},
		sorts:  []int{5, 6, 0, 3, 1, 1, 4, 3},
		lines:  []api.TypeLine{{Measure: 7, Sorts: []int{0, 1, 7}}, {Sorts: []int{9, 0, 12, 3}}},
		broken: []bool{true, false},
	}
}

func results(e api.Errno, r ...any) ([]any, api.Errno) {
	return r, e
}

// calls has every function that takes a fount or rules.
func calls() []call {
	type R = api.TextRules
	return []call{
		{name: "FirstMissing", fount: true, word: true, do: func(f api.Fount, _ R, a args) ([]any, api.Errno) {
			r, e := text.FirstMissing(f, a.word)
			if e == api.ErrNone {
				e = api.OK
			}
			return results(e, r)
		}},
		{name: "SortsOf", fount: true, rules: true, word: true, do: func(f api.Fount, r R, a args) ([]any, api.Errno) {
			l, e := text.SortsOf(f, r, a.word)
			return results(e, l)
		}},
		{name: "FewestSorts", fount: true, rules: true, word: true, do: func(f api.Fount, r R, a args) ([]any, api.Errno) {
			l, e := text.FewestSorts(f, r, a.word)
			return results(e, l)
		}},
		{name: "CheckSorts", fount: true, rules: true, word: true, do: func(f api.Fount, r R, a args) ([]any, api.Errno) {
			return nil, text.CheckSorts(f, r, api.TextSet{Word: a.word, Sorts: a.sorts})
		}},
		{name: "Words", fount: true, rules: true, do: func(f api.Fount, r R, a args) ([]any, api.Errno) {
			l, e := text.Words(f, r, a.words)
			return results(e, l)
		}},
		{name: "Needs", fount: true, rules: true, do: func(f api.Fount, r R, a args) ([]any, api.Errno) {
			l, e := text.Needs(f, r, a.parts)
			return results(e, l)
		}},
		{name: "LevelsOf", rules: true, word: true, do: func(_ api.Fount, r R, a args) ([]any, api.Errno) {
			l, e := text.LevelsOf(r, a.word)
			return results(e, l)
		}},
		{name: "Deciding", rules: true, word: true, do: func(_ api.Fount, r R, a args) ([]any, api.Errno) {
			n, e := text.Deciding(r, a.word, 2)
			return results(e, n)
		}},
		{name: "Hyphens", rules: true, word: true, do: func(_ api.Fount, r R, a args) ([]any, api.Errno) {
			l, e := text.Hyphens(r, a.word)
			return results(e, l)
		}},
		{name: "Hyphened", rules: true, word: true, do: func(_ api.Fount, r R, a args) ([]any, api.Errno) {
			s, e := text.Hyphened(r, a.word)
			return results(e, s)
		}},
		{name: "Parted", fount: true, rules: true, word: true, do: func(f api.Fount, r R, a args) ([]any, api.Errno) {
			l, e := text.Parted(f, r, api.TextPlace{Word: a.word, Place: 5})
			return results(e, l)
		}},
		{name: "ReadBack", fount: true, do: func(f api.Fount, _ R, a args) ([]any, api.Errno) {
			l, e := text.ReadBack(f, a.lines, a.broken)
			return results(e, l)
		}},
		{name: "PrintRules", rules: true, do: func(_ api.Fount, r R, a args) ([]any, api.Errno) {
			s, e := text.PrintRules(r)
			return results(e, s)
		}},
	}
}

// callRules is rules with which every call with the right arguments succeeds.
func callRules() api.TextRules {
	return api.TextRules{Patterns: []string{"f1f", "h1e", "l3f"}, Exceptions: []string{"shelf-ful"}, Bars: []string{"shelf|ful"}, Left: 2, Right: 2}
}

// P1, R9: each function tells the errors of its fount, of its rules and of its word, in this order.
func TestErrorsOfArguments(t *testing.T) {
	for _, c := range calls() {
		if r, e := c.do(office(), callRules(), rightArgs()); e != api.OK {
			t.Errorf("%s of right arguments: %v, error %d", c.name, r, e)
		}
		for want, f := range badFounts() {
			if !c.fount {
				break
			}
			for _, rules := range []api.TextRules{callRules(), {}} {
				if r, e := c.do(f, rules, args{}); e != want || !isZero(r) {
					t.Errorf("%s of a wrong fount: %v, error %d, want %d", c.name, r, e, want)
				}
			}
		}
		for want, rules := range badRules() {
			if !c.rules {
				break
			}
			if r, e := c.do(office(), rules, args{}); e != want || !isZero(r) {
				t.Errorf("%s of wrong rules: %v, error %d, want %d", c.name, r, e, want)
			}
		}
		for _, word := range wrongWords() {
			if !c.word {
				break
			}
			a := rightArgs()
			a.word, a.sorts = word, []int{-1}
			if r, e := c.do(office(), callRules(), a); e != api.ErrForm || !isZero(r) {
				t.Errorf("%s of %q: %v, error %d, want %d", c.name, word, r, e, api.ErrForm)
			}
		}
	}
}

func wrongWords() []string {
	return []string{"", " ", "a b", "a\n", "a\tb", "\x7f", "\x00", "\xc3\xa9", "efi\x80", fmt.Sprintf("%031d", 0)}
}
