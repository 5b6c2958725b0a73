package text_test

import (
	"fmt"
	"slices"
	"strconv"
	"strings"
	"testing"

	"tympan/api"
	"tympan/text"
)

// letters is n letters.
func letters(n int) string {
	return strings.Repeat("abcdefghij", n/10+1)[:n]
}

// many is n different texts that end alike.
func many(n int, end string) []string {
	var l []string
	for i := range n {
		l = append(l, string(rune('a'+i/26))+string(rune('a'+i%26))+end)
	}
	return l
}

// P2.1: what is a pattern.
func TestPatterns(t *testing.T) {
	all16 := "1" + strings.Join(strings.Split(letters(16), ""), "2") + "3"
	for _, p := range []string{
		"a", "1a", "a1", "1a2", ".a", "a.", ".a.", ".1a", "a1.", ".1a2b3.", "a1b", "0a", "a9", "z", letters(16),
		"." + all16 + ".", all16,
	} {
		if n, e := text.CheckRules(api.TextRules{Patterns: []string{p}, Left: 1, Right: 1}); n != 0 || e != api.OK {
			t.Errorf("the pattern %q: %d, error %d", p, n, e)
		}
	}
	for _, p := range []string{
		"", ".", "..", "...", "1", ".1", "1.", ".1.", "12", "12a", "a12", "a12b", "1.a", "a.1", "1.a.", "..a", "a..", "a.b",
		"A", "aB", "-", "a-b", "a b", " a", "a ", "a\n", "\xe4", "a:", "a/", "`", "{", letters(17), all16 + "q", all16 + "4",
		"." + letters(17) + ".",
	} {
		n, e := text.CheckRules(api.TextRules{Patterns: []string{"a1b", "a1b", p}, Exceptions: []string{""}})
		wantNumber(t, "the pattern "+strconv.Quote(p), n, e, 2, api.ErrForm)
	}
}

// P2.1: what is an exception, and what a bar.
func TestExceptionsAndBars(t *testing.T) {
	exceptions := func(l ...string) (int, api.Errno) {
		return text.CheckRules(api.TextRules{Exceptions: l, Bars: []string{"a|z"}, Left: 1, Right: 1})
	}
	bars := func(l ...string) (int, api.Errno) {
		return text.CheckRules(api.TextRules{Exceptions: []string{"a-z"}, Bars: l, Left: 1, Right: 1})
	}
	allDivided := func(mark string) string { return strings.Join(strings.Split(letters(30), ""), mark) }
	for _, s := range []string{"a", "a-b", "ab-c-d", "z-a", letters(30), allDivided("-")} {
		n, e := exceptions("zz", s)
		wantNumber(t, "the exception "+strconv.Quote(s), n, e, 0, api.OK)
	}
	for _, s := range []string{"", "-", "-a", "a-", "a--b", "a-b-", "A", "a-B", "a|b", "a.b", "a1b", "a b", "a\n", letters(31), allDivided("-") + "-a", letters(20) + "-" + letters(11)} {
		n, e := exceptions("zz", s)
		wantNumber(t, "the exception "+strconv.Quote(s), n, e, 1, api.ErrForm)
	}
	for _, s := range []string{"a|b", "ab|c|d", "A|b", "!|~", "a-|-b", "1|.", "#|#", allDivided("|")} {
		n, e := bars("z|z", s)
		wantNumber(t, "the bar "+strconv.Quote(s), n, e, 0, api.OK)
	}
	for _, s := range []string{"", "|", "a", "ab", "|a", "a|", "a||b", "a|b|", "a |b", "a|\n", "a|\x7f", "\xe4|a", letters(20) + "|" + letters(11), allDivided("|") + "|a"} {
		n, e := bars("z|z", s)
		wantNumber(t, "the bar "+strconv.Quote(s), n, e, 1, api.ErrForm)
	}
	for _, l := range [][]string{{"ab", "a-bc", "a-b"}, {"a-b", "c", "a-b"}, {"a-b", "b", "ab"}} {
		n, e := exceptions(l...)
		wantNumber(t, fmt.Sprint("the exceptions ", l), n, e, 2, api.ErrExists)
	}
	for _, l := range [][]string{{"ab|c", "a|b", "a|bc"}, {"a|b", "b|a", "a|b"}} {
		n, e := bars(l...)
		wantNumber(t, fmt.Sprint("the bars ", l), n, e, 2, api.ErrExists)
	}
	n, e := bars("a|b", "A|b", "a|bc", "abc|d")
	wantNumber(t, "bars of different words", n, e, 0, api.OK)
	n, e = text.CheckRules(api.TextRules{Exceptions: []string{"a-b"}, Bars: []string{"a|b"}, Left: 1, Right: 1})
	wantNumber(t, "an exception and a bar of one word", n, e, 0, api.OK)
}

// P2.1: how many there may be, and the least numbers of letters.
func TestRulesLimits(t *testing.T) {
	right := api.TextRules{Patterns: many(60, "1a"), Exceptions: many(40, "-a"), Bars: many(40, "|a"), Left: 10, Right: 10}
	n, e := text.CheckRules(right)
	wantNumber(t, "as many as may be", n, e, 0, api.OK)
	n, e = text.CheckRules(api.TextRules{Left: 1, Right: 1})
	wantNumber(t, "none", n, e, 0, api.OK)
	for _, c := range []struct {
		change func(r *api.TextRules)
		number int
		e      api.Errno
	}{
		{func(r *api.TextRules) { r.Patterns = many(61, "1a"); r.Patterns[3] = "" }, 0, api.ErrLarge},
		{func(r *api.TextRules) { r.Exceptions = many(41, "-a"); r.Exceptions[3] = "" }, 0, api.ErrLarge},
		{func(r *api.TextRules) { r.Bars = many(41, "|a"); r.Bars[3] = "" }, 0, api.ErrLarge},
		{func(r *api.TextRules) { r.Left = 0 }, 0, api.ErrRange},
		{func(r *api.TextRules) { r.Right = 0 }, 0, api.ErrRange},
		{func(r *api.TextRules) { r.Left = 11 }, 0, api.ErrRange},
		{func(r *api.TextRules) { r.Right = 11 }, 0, api.ErrRange},
		{func(r *api.TextRules) { r.Left = -1 << 63 }, 0, api.ErrRange},
		{func(r *api.TextRules) { r.Right = 1<<63 - 1 }, 0, api.ErrRange},
		// The first error in the order of patterns, exceptions, bars, numbers.
		{func(r *api.TextRules) { r.Patterns[59] = ""; r.Exceptions = many(41, "-a") }, 59, api.ErrForm},
		{func(r *api.TextRules) { r.Exceptions[39] = "aaa"; r.Bars = many(41, "|a") }, 39, api.ErrExists},
		{func(r *api.TextRules) { r.Exceptions[7], r.Exceptions[9] = "a", ""; r.Exceptions[8] = "a" }, 8, api.ErrExists},
		{func(r *api.TextRules) { r.Exceptions[7], r.Exceptions[9] = "", "aaa" }, 7, api.ErrForm},
		{func(r *api.TextRules) { r.Bars[39] = "a|aa"; r.Left = 0 }, 39, api.ErrExists},
		{func(r *api.TextRules) { r.Bars[5], r.Left = "a", 0 }, 5, api.ErrForm},
	} {
		r := right
		r.Patterns, r.Exceptions, r.Bars = slices.Clone(right.Patterns), slices.Clone(right.Exceptions), slices.Clone(right.Bars)
		c.change(&r)
		n, e := text.CheckRules(r)
		wantNumber(t, fmt.Sprint("CheckRules ", r), n, e, c.number, c.e)
		if s, e := text.PrintRules(r); s != "" || e != c.e {
			t.Errorf("PrintRules %v: %q, error %d", r, s, e)
		}
	}
}

// P2.1: the text of rules, there and back.
func TestRulesTexts(t *testing.T) {
	for _, c := range []struct {
		rules api.TextRules
		text  string
	}{
		{plain(), "least 1 1\n"},
		{api.TextRules{Left: 10, Right: 3}, "least 10 3\n"},
		{examples("ef-fie", "table"), "least 2 2\npattern a1b\npattern 2bl\npattern b3l\nword ef-fie\nword table\nbar shelf|ful\n"},
		{api.TextRules{Bars: []string{"pattern|word", "a|b"}, Left: 1, Right: 2}, "least 1 2\nbar pattern|word\nbar a|b\n"},
		{api.TextRules{Patterns: []string{".1a2.", "x", "x"}, Left: 1, Right: 2}, "least 1 2\npattern .1a2.\npattern x\npattern x\n"},
		{api.TextRules{Patterns: []string{"b"}, Bars: []string{"a|b"}, Left: 1, Right: 2}, "least 1 2\npattern b\nbar a|b\n"},
	} {
		if s, e := text.PrintRules(c.rules); s != c.text || e != api.OK {
			t.Errorf("PrintRules %v: %q, error %d", c.rules, s, e)
		}
		if r, n, e := text.ParseRules(c.text); !alikeRules(r, c.rules) || n != 0 || e != api.OK {
			t.Errorf("ParseRules %q: %v, %d, error %d", c.text, r, n, e)
		}
	}
}

func TestParseRulesErrors(t *testing.T) {
	for _, c := range []struct {
		text   string
		number int
		e      api.Errno
	}{
		// No text of rules: the first line that is wrong.
		{"", 1, api.ErrSyntax},
		{"\n", 1, api.ErrSyntax},
		{"least 2 2", 1, api.ErrSyntax},
		{"pattern a1b\n", 1, api.ErrSyntax},
		{"bar a|b\nleast 2 2\n", 1, api.ErrSyntax},
		{"least\n", 1, api.ErrSyntax},
		{"least \n", 1, api.ErrSyntax},
		{"least 2\n", 1, api.ErrSyntax},
		{"least 2 \n", 1, api.ErrSyntax},
		{"least  2\n", 1, api.ErrSyntax},
		{"least 2 2 \n", 1, api.ErrSyntax},
		{"least 2 2 2\n", 1, api.ErrSyntax},
		{"least 2  2\n", 1, api.ErrSyntax},
		{" least 2 2\n", 1, api.ErrSyntax},
		{"least\t2 2\n", 1, api.ErrSyntax},
		{"Least 2 2\n", 1, api.ErrSyntax},
		{"leasts 2 2\n", 1, api.ErrSyntax},
		{"least 2 2\r\n", 1, api.ErrSyntax},
		{"least 02 2\n", 1, api.ErrSyntax},
		{"least 2 +2\n", 1, api.ErrSyntax},
		{"least -0 2\n", 1, api.ErrSyntax},
		{"least 2 -02\n", 1, api.ErrSyntax},
		{"least 2 --2\n", 1, api.ErrSyntax},
		{"least - 2\n", 1, api.ErrSyntax},
		{"least x 2\n", 1, api.ErrSyntax},
		{"least 2 0x2\n", 1, api.ErrSyntax},
		{"least 2 1_0\n", 1, api.ErrSyntax},
		{"least 10000000 2\n", 1, api.ErrSyntax},
		{"least 2 -10000000\n", 1, api.ErrSyntax},
		{"least 2 99999999999999999999\n", 1, api.ErrSyntax},
		{"least 2 2\nleast 2 2\n", 2, api.ErrSyntax},
		{"least 2 2\n\n", 2, api.ErrSyntax},
		{"least 2 2\npattern a1b", 2, api.ErrSyntax},
		{"least 2 2\npattern\n", 2, api.ErrSyntax},
		{"least 2 2\npattern a1b \n", 2, api.ErrSyntax},
		{"least 2 2\npattern  a1b\n", 2, api.ErrSyntax},
		{"least 2 2\npattern a1b a1b\n", 2, api.ErrSyntax},
		{"least 2 2\npatterns a1b\n", 2, api.ErrSyntax},
		{"least 2 2\nword ab\npattern a1b\n", 3, api.ErrSyntax},
		{"least 2 2\nbar a|b\nword ab\n", 3, api.ErrSyntax},
		{"least 2 2\nbar a|b\npattern a1b\n", 3, api.ErrSyntax},
		{"least 2 2\nbar a|b\nleast 2 2\n", 3, api.ErrSyntax},
		{"least 2 2\nbar a|b\nbar \nbar", 4, api.ErrSyntax},
		{"least 2 2\nword ab\nword ab\n ", 4, api.ErrSyntax},
		{"least 0 0\npattern 12\nword -\nx\n", 4, api.ErrSyntax},
		// A text of what are no rules.
		{"least 0 2\n", 0, api.ErrRange},
		{"least 2 11\n", 0, api.ErrRange},
		{"least -1 2\n", 0, api.ErrRange},
		{"least 2 -9999999\n", 0, api.ErrRange},
		{"least 9999999 2\n", 0, api.ErrRange},
		{"least 2 2\npattern \n", 0, api.ErrForm},
		{"least 2 2\npattern a1b\npattern \t\xff\n", 0, api.ErrForm},
		{"least 2 2\nword \n", 0, api.ErrForm},
		{"least 2 2\nbar ab\n", 0, api.ErrForm},
		{"least 2 2\nword ab\nword c\nword a-b\n", 0, api.ErrExists},
		{"least 0 2\nword ab\nword c\nword a-b\n", 0, api.ErrExists},
		{"least 2 2\n" + strings.Repeat("pattern a\n", 61), 0, api.ErrLarge},
		{"least 2 2\nbar \n" + strings.Repeat("bar a|b\n", 40), 0, api.ErrLarge},
		// Too many bytes.
		{strings.Repeat("\n", 60000), 1, api.ErrSyntax},
		{strings.Repeat("\n", 60001), 0, api.ErrLarge},
		{"least 2 2\npattern " + strings.Repeat("a", 60000-10-9) + "\n", 0, api.ErrForm},
		{"least 2 2\npattern " + strings.Repeat("a", 60000-10-8) + "\n", 0, api.ErrLarge},
	} {
		r, n, e := text.ParseRules(c.text)
		wantNumber(t, "ParseRules "+strconv.Quote(c.text[:min(len(c.text), 80)]), n, e, c.number, c.e)
		if !alikeRules(r, api.TextRules{}) {
			t.Errorf("ParseRules %q: the rules %v beside an error", c.text, r)
		}
	}
}
