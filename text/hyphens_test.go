package text_test

import (
	"fmt"
	"strings"
	"testing"

	"tympan/api"
	"tympan/text"
)

func withPatterns(patterns ...string) api.TextRules {
	return api.TextRules{Patterns: patterns, Left: 1, Right: 1}
}

// P2.5: levels, and the patterns that decide.
func TestLevels(t *testing.T) {
	for _, c := range []struct {
		patterns []string
		word     string
		levels   []int
		deciding []int // -1 where the level is 0
	}{
		{[]string{"a1b", "2bl", "b3l"}, "table", []int{0, 0, 2, 3, 0, 0}, []int{-1, -1, 1, 2, -1, -1}},
		{[]string{"a1b", "2bl", "b3l"}, "TaBLe", []int{0, 0, 2, 3, 0, 0}, []int{-1, -1, 1, 2, -1, -1}},
		{nil, "ab", []int{0, 0, 0}, []int{-1, -1, -1}},
		{[]string{"a", "a0", "0b"}, "ab", []int{0, 0, 0}, []int{-1, -1, -1}},
		// Digits at the ends, and "." there alone.
		{[]string{"1a2b3"}, "ab", []int{1, 2, 3}, []int{0, 0, 0}},
		{[]string{".1a2b3."}, "ab", []int{1, 2, 3}, []int{0, 0, 0}},
		{[]string{".1a2b3."}, "abb", []int{0, 0, 0, 0}, []int{-1, -1, -1, -1}},
		{[]string{".1a2b3."}, "aab", []int{0, 0, 0, 0}, []int{-1, -1, -1, -1}},
		{[]string{".5a"}, "aaa", []int{5, 0, 0, 0}, []int{0, -1, -1, -1}},
		{[]string{"5a."}, "aaa", []int{0, 0, 5, 0}, []int{-1, -1, 0, -1}},
		{[]string{".a5.", "a4."}, "aa", []int{0, 0, 4}, []int{-1, -1, 1}},
		// The same pattern several times, and over itself.
		{[]string{"a1"}, "aba", []int{0, 1, 0, 1}, []int{-1, 0, -1, 0}},
		{[]string{"1a2a3"}, "aaaa", []int{1, 2, 3, 3, 3}, []int{0, 0, 0, 0, 0}},
		// Of equal digits the first pattern decides, of others the greatest one.
		{[]string{"a3", "3b", "a4c"}, "ab", []int{0, 3, 0}, []int{-1, 0, -1}},
		{[]string{"1b", "3b", "a3", "a9c"}, "ab", []int{0, 3, 0}, []int{-1, 1, -1}},
		{[]string{"a9", "a8b"}, "ab", []int{0, 9, 0}, []int{-1, 0, -1}},
		// A digit of a pattern that is its level elsewhere does not decide here.
		{[]string{"3a2b", "a3"}, "ab", []int{3, 3, 0}, []int{0, 1, -1}},
		// Words that are no letters alone have levels, too.
		{[]string{"a1b"}, "ab-ab5", []int{0, 1, 0, 0, 1, 0, 0}, []int{-1, 0, -1, -1, 0, -1, -1}},
		{[]string{".1b", "a1.", "1b"}, "a.b", []int{0, 0, 1, 0}, []int{-1, -1, 2, -1}},
		{[]string{"7abcdefghijabcdef8"}, letters(30), append([]int{7}, make([]int, 30)...), nil},
		{[]string{"z1"}, strings.Repeat("~", 30), make([]int, 31), nil},
	} {
		if c.word == letters(30) {
			c.levels[10], c.levels[16], c.levels[26] = 7, 8, 8
		}
		r := withPatterns(c.patterns...)
		l, e := text.LevelsOf(r, c.word)
		wantList(t, fmt.Sprintf("LevelsOf %q by %v", c.word, c.patterns), l, e, c.levels, api.OK)
		for place, want := range c.deciding {
			wantError := api.OK
			if want < 0 {
				want, wantError = 0, api.ErrNone
			}
			n, e := text.Deciding(r, c.word, place)
			wantNumber(t, fmt.Sprintf("Deciding %q by %v at %d", c.word, c.patterns, place), n, e, want, wantError)
		}
		for _, place := range []int{-1, len(c.word) + 1, -1 << 63, 1<<63 - 1} {
			n, e := text.Deciding(r, c.word, place)
			wantNumber(t, fmt.Sprintf("Deciding %q at %d", c.word, place), n, e, 0, api.ErrRange)
		}
	}
}

// P2.5: hyphens.
func TestHyphens(t *testing.T) {
	odd := withPatterns("1a", "1b", "1c", "1d", "1e")
	near := func(left, right int, exceptions ...string) api.TextRules {
		return api.TextRules{Patterns: odd.Patterns, Exceptions: exceptions, Left: left, Right: right}
	}
	for _, c := range []struct {
		rules    api.TextRules
		word     string
		hyphens  []int
		hyphened string
	}{
		{examples(), "table", []int{3}, "tab-le"},
		{examples("ta-ble"), "table", []int{2}, "ta-ble"},
		{examples("ta-ble"), "TABLE", []int{2}, "TA-BLE"},
		{examples("table"), "table", nil, "table"},
		{examples("ta-ble"), "tables", []int{3}, "tab-les"},
		{examples("ta-ble"), "table.", nil, "table."},
		{examples("t-a-b-l-e"), "Table", []int{2, 3}, "Ta-b-le"},
		{odd, "abcde", []int{1, 2, 3, 4}, "a-b-c-d-e"},
		{odd, "aBcDe", []int{1, 2, 3, 4}, "a-B-c-D-e"},
		{odd, "a", nil, "a"},
		{odd, "abc5de", nil, "abc5de"},
		{odd, "abc-de", nil, "abc-de"},
		{odd, "abc'de", nil, "abc'de"},
		{odd, "[abc]", nil, "[abc]"},
		{odd, "ab@cd", nil, "ab@cd"},
		{odd, "ab`{cd", nil, "ab`{cd"},
		{near(2, 1), "abcde", []int{2, 3, 4}, "ab-c-d-e"},
		{near(1, 2), "abcde", []int{1, 2, 3}, "a-b-c-de"},
		{near(3, 2), "abcde", []int{3}, "abc-de"},
		{near(3, 3), "abcde", nil, "abcde"},
		{near(10, 10), "abcde", nil, "abcde"},
		{near(10, 10), "xxxxxxxxxxaxxxxxxxxx", []int{10}, "xxxxxxxxxx-axxxxxxxxx"},
		{near(10, 10), "xxxxxxxxxxaxxxxxxxx", nil, "xxxxxxxxxxaxxxxxxxx"},
		{near(2, 2, "a-b-c-d-e"), "abcde", []int{2, 3}, "ab-c-de"},
		{withPatterns("a1b", "a2b"), "ab", nil, "ab"},
		{withPatterns("a5b", "a4b"), "ab", []int{1}, "a-b"},
		{withPatterns("1a1", ".3a5."), "a", nil, "a"},
		{withPatterns("a7b9c"), "abc", []int{1, 2}, "a-b-c"},
		{withPatterns("a8b0c6"), "abc", nil, "abc"},
	} {
		what := fmt.Sprintf("of %q by %v", c.word, c.rules)
		l, e := text.Hyphens(c.rules, c.word)
		wantList(t, "Hyphens "+what, l, e, c.hyphens, api.OK)
		if s, e := text.Hyphened(c.rules, c.word); s != c.hyphened || e != api.OK {
			t.Errorf("Hyphened %s: %q, error %d, want %q", what, s, e, c.hyphened)
		}
	}
}
