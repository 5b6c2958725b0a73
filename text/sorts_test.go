package text_test

import (
	"fmt"
	"slices"
	"strings"
	"testing"

	"tympan/api"
	"tympan/text"
)

// P2.3: bytes that no letter prints.
func TestFirstMissing(t *testing.T) {
	for _, c := range []struct {
		fount  api.Fount
		word   string
		number int
		e      api.Errno
	}{
		{office(), "shelfful", 0, api.ErrNone},
		{office(), "-", 0, api.ErrNone},
		{office(), "a", 0, api.OK},
		{office(), "ea", 1, api.OK},
		{office(), "eaea", 1, api.OK},
		{office(), "E", 0, api.OK},
		{office(), strings.Repeat("e", 29) + "~", 29, api.OK},
		{fountOf("fi", "f", ""), "fi", 1, api.OK},
		{fountOf("", "fi"), "fi", 0, api.OK},
	} {
		n, e := text.FirstMissing(c.fount, c.word)
		wantNumber(t, fmt.Sprintf("FirstMissing of %q", c.word), n, e, c.number, c.e)
	}
}

// P2.3: the set word, and the fewest sorts.
func TestSortsOf(t *testing.T) {
	f := office()
	none := api.ErrMissing
	withBars := func(bars ...string) api.TextRules { return api.TextRules{Bars: bars, Left: 1, Right: 1} }
	for _, c := range []struct {
		fount           api.Fount
		rules           api.TextRules
		word            string
		sorts           []int
		fewest          []int
		sortsE, fewestE api.Errno
	}{
		{f, plain(), "effi", []int{0, 10}, []int{0, 10}, 0, 0},
		{f, examples(), "shelfful", []int{5, 6, 0, 3, 1, 1, 4, 3}, []int{5, 6, 0, 3, 1, 1, 4, 3}, 0, 0},
		{f, plain(), "shelfful", []int{5, 6, 0, 3, 8, 4, 3}, []int{5, 6, 0, 3, 8, 4, 3}, 0, 0},
		{f, plain(), "ea", nil, nil, none, none},
		{f, plain(), "a", nil, nil, none, none},
		{f, plain(), "ffl", []int{8, 3}, []int{1, 11}, 0, 0},
		{f, plain(), "ffi", []int{10}, []int{10}, 0, 0},
		{f, plain(), "fffi", []int{8, 9}, []int{1, 10}, 0, 0},
		{f, plain(), "-", []int{7}, []int{7}, 0, 0},
		{f, plain(), "FFI", nil, nil, none, none},
		// The longest one at each place, though fewer would do, or none follows.
		{fountOf("a", "b", "c", "ab", "bc", "bcab", "aba"), plain(), "abcab", []int{3, 2, 3}, []int{0, 5}, 0, 0},
		{fountOf("a", "ab", "bc"), plain(), "abc", nil, []int{0, 2}, none, 0},
		{fountOf("ab", "bc", "a"), plain(), "abc", nil, []int{2, 1}, none, 0},
		{fountOf("abcd", "abc", "ab", "a", "d"), plain(), "abcd", []int{0}, []int{0}, 0, 0},
		{fountOf("a", "ab", "abc", "abcd"), plain(), "abcd", []int{3}, []int{3}, 0, 0},
		{fountOf("", "", "a", "", "aa"), plain(), "aaa", []int{4, 2}, []int{2, 4}, 0, 0},
		{fountOf("aa", "a"), plain(), "aaa", []int{0, 1}, []int{0, 1}, 0, 0},
		{fountOf("aaaa", "aa", "aaa"), plain(), "aaaaaa", []int{0, 1}, []int{0, 1}, 0, 0},
		{fountOf("aa", "aaaa", "aaa"), plain(), "aaaaaa", []int{1, 0}, []int{0, 1}, 0, 0},
		{fountOf("aa", "aaa"), plain(), "aaaa", nil, []int{0, 0}, none, 0},
		// Bars: for a word as it is written alone; a ligature may begin and end at one.
		{f, withBars("f|fi"), "ffi", []int{1, 9}, []int{1, 9}, 0, 0},
		{f, withBars("ff|i"), "ffi", []int{8, 2}, []int{8, 2}, 0, 0},
		{f, withBars("f|f|i"), "ffi", []int{1, 1, 2}, []int{1, 1, 2}, 0, 0},
		{f, withBars("e|ffi"), "effi", []int{0, 10}, []int{0, 10}, 0, 0},
		{f, withBars("ef|fi"), "effi", []int{0, 1, 9}, []int{0, 1, 9}, 0, 0},
		{f, withBars("f|fi"), "effi", []int{0, 10}, []int{0, 10}, 0, 0},
		{f, withBars("ef|fi"), "ffi", []int{10}, []int{10}, 0, 0},
		{fountOf("F", "f", "i", "Ff", "ff"), withBars("f|fi"), "Ffi", []int{3, 2}, []int{3, 2}, 0, 0},
		{fountOf("ab", "a"), withBars("a|b"), "ab", nil, nil, none, none},
	} {
		what := fmt.Sprintf("of %q by %v, %v", c.word, c.fount.Sorts, c.rules)
		l, e := text.SortsOf(c.fount, c.rules, c.word)
		wantList(t, "SortsOf "+what, l, e, c.sorts, c.sortsE)
		l, e = text.FewestSorts(c.fount, c.rules, c.word)
		wantList(t, "FewestSorts "+what, l, e, c.fewest, c.fewestE)
		for _, sorts := range [][]int{c.sorts, c.fewest} {
			if e := text.CheckSorts(c.fount, c.rules, api.TextSet{Word: c.word, Sorts: sorts}); sorts != nil && e != api.OK {
				t.Errorf("CheckSorts %s: %v, error %d", what, sorts, e)
			}
		}
	}
	// Of the longest word the last byte cannot be set.
	l, e := text.FewestSorts(f, plain(), strings.Repeat("f", 29)+"a")
	wantList(t, "FewestSorts of 30 bytes", l, e, nil, api.ErrMissing)
	l, e = text.FewestSorts(f, plain(), strings.Repeat("e", 30))
	wantList(t, "FewestSorts of 30 letters", l, e, make([]int, 30), api.OK)
}

// P2.3: sorts for a word.
func TestCheckSorts(t *testing.T) {
	for _, c := range []struct {
		word  string
		sorts []int
		e     api.Errno
	}{
		{"ffi", []int{10}, api.OK},
		{"ffi", []int{8, 2}, api.OK},
		{"ffi", []int{1, 9}, api.OK},
		{"ffi", []int{1, 1, 2}, api.OK},
		{"shelfful", []int{5, 6, 0, 3, 1, 1, 4, 3}, api.OK},
		{"shelfful", []int{5, 6, 0, 3, 8, 4, 3}, api.ErrBreak},
		{"ffi", nil, api.ErrForm},
		{"ffi", []int{8}, api.ErrForm},
		{"ffi", []int{8, 2, 2}, api.ErrForm},
		{"ffi", []int{10, 2}, api.ErrForm},
		{"ffi", []int{9, 1}, api.ErrForm},
		{"ff", []int{10}, api.ErrForm},
		{"ffi", []int{10, 12}, api.ErrKind},
		{"ffi", []int{12, 10}, api.ErrKind},
		{"ffi", []int{10, 13}, api.ErrMissing},
		{"ffi", []int{-1, 12}, api.ErrMissing},
		{"ffi", []int{12, -1}, api.ErrKind},
		{"ffi", []int{3, 3, 3, 1<<63 - 1}, api.ErrMissing},
		{"ffi", []int{-1 << 63}, api.ErrMissing},
		{"shelfful", []int{5, 6, 0, 3, 8, 4}, api.ErrForm},
		{"shelfful", []int{5, 6, 0, 3, 8, 4, 3, 3}, api.ErrForm},
		{"shelfful", []int{5, 6, 0, 3, 8, 4, 3, 12}, api.ErrKind},
		{"shelfful", []int{5, 6, 0, 3, 8, 4, 3, 13}, api.ErrMissing},
		{"e", slices.Repeat([]int{0}, 100000), api.ErrForm},
	} {
		if e := text.CheckSorts(office(), examples(), api.TextSet{Word: c.word, Sorts: c.sorts}); e != c.e {
			t.Errorf("CheckSorts of %q, %v: %d, want %d", c.word, c.sorts[:min(len(c.sorts), 10)], e, c.e)
		}
	}
}
