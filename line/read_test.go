package line_test

import (
	"slices"
	"strings"
	"testing"

	"tympan/api"
	"tympan/line"
)

// P3.5: the gaps, the words and the copy of lines, right ones or not.
func TestReading(t *testing.T) {
	for _, c := range []struct {
		what  string
		sorts []int
		gaps  []int
		words [][]int
		copy  string
	}{
		{"example 1", []int{0, 3, 4, 1, 4, 4, 2}, []int{320, 240}, [][]int{{0}, {1}, {2}}, "a b fi"},
		{"example 7", []int{0, 1, 3, 2}, []int{200}, [][]int{{0, 1}, {2}}, "ab fi"},
		{"nothing", nil, nil, nil, ""},
		{"spaces alone", []int{3, 4, 4}, nil, nil, ""},
		{"a word alone", []int{0, 2, 1}, nil, [][]int{{0, 2, 1}}, "afib"},
		{"an indent", []int{3, 4, 0, 3, 1}, []int{200}, [][]int{{0}, {1}}, "a b"},
		{"a fill at the end", []int{0, 3, 1, 4, 4}, []int{200}, [][]int{{0}, {1}}, "a b"},
		{"both", []int{3, 3, 0, 4, 4, 4, 4, 1, 1, 3, 2, 4}, []int{480, 200}, [][]int{{0}, {1, 1}, {2}}, "a bb fi"},
		{"an indent and a word", []int{3, 3, 0}, nil, [][]int{{0}}, "a"},
	} {
		l := lineOf(1, c.sorts...)
		gaps, e := line.GapsOf(roman(), l)
		wantList(t, "GapsOf, "+c.what, gaps, e, c.gaps, api.OK)
		if words, e := line.WordsOf(roman(), l); e != api.OK || !slices.EqualFunc(words, c.words, slices.Equal[[]int]) {
			t.Errorf("WordsOf, %s: %v, error %d, want %v", c.what, words, e, c.words)
		}
		if s, e := line.CopyOf(roman(), l); e != api.OK || s != c.copy {
			t.Errorf("CopyOf, %s: %q, error %d, want %q", c.what, s, e, c.copy)
		}
	}
	// More kinds of spaces than lines use, and as many sorts as a line may have.
	f := spaced(1, 2, 3, 4, 5, 6, 7, 8, 9)
	l := lineOf(1000000, append(slices.Repeat([]int{0}, 290), 1, 2, 3, 4, 5, 6, 7, 8, 9, 0)...)
	gaps, e := line.GapsOf(f, l)
	wantList(t, "GapsOf of 300 sorts", gaps, e, []int{45}, api.OK)
	if s, e := line.CopyOf(f, l); e != api.OK || s != strings.Repeat("a", 290)+" a" {
		t.Errorf("CopyOf of 300 sorts: %q, error %d", s, e)
	}
	if words, e := line.WordsOf(f, l); e != api.OK || len(words) != 2 || len(words[0]) != 290 {
		t.Errorf("WordsOf of 300 sorts: %v, error %d", words, e)
	}
}

// P3.5: the errors of lines.
func TestReadingErrors(t *testing.T) {
	long := slices.Repeat([]int{0}, 301)
	type wrong struct {
		what string
		f    api.Fount
		line api.TypeLine
		e    api.Errno
	}
	all := []wrong{
		{"the measure 0", roman(), lineOf(0, append(long, 9)...), api.ErrRange},
		{"the measure -1", roman(), lineOf(-1, 9), api.ErrRange},
		{"the measure 1000001", roman(), lineOf(1000001, 9), api.ErrRange},
		{"301 sorts", roman(), lineOf(1, append(long[:300:300], 9)...), api.ErrLarge},
		{"no such sort", roman(), lineOf(1, 0, 3, 5), api.ErrMissing},
		{"the sort -1", roman(), lineOf(1, -1), api.ErrMissing},
		{"a great sort", roman(), lineOf(1, 1<<63-1), api.ErrMissing},
	}
	for e, f := range badFounts() {
		all = append(all, wrong{"a wrong fount", f, lineOf(0, 9), e})
	}
	for _, c := range all {
		gaps, e := line.GapsOf(c.f, c.line)
		wantList(t, "GapsOf, "+c.what, gaps, e, nil, c.e)
		if words, e := line.WordsOf(c.f, c.line); e != c.e || len(words) != 0 {
			t.Errorf("WordsOf, %s: %v, error %d, want %d", c.what, words, e, c.e)
		}
		if s, e := line.CopyOf(c.f, c.line); e != c.e || s != "" {
			t.Errorf("CopyOf, %s: %q, error %d, want %d", c.what, s, e, c.e)
		}
	}
}

// P3.5, P3.9: the texts of lines.
func TestLineTexts(t *testing.T) {
	for text, l := range map[string]api.TypeLine{
		"1550 0 3 4 1 4 4 2":              lineOf(1550, 0, 3, 4, 1, 4, 4, 2),
		"0":                               lineOf(0),
		"7":                               {Measure: 7, Sorts: []int{}},
		"-7 -9999999 0 9999999":           lineOf(-7, -9999999, 0, 9999999),
		"1000000 119":                     lineOf(1000000, 119),
		"1" + strings.Repeat(" 119", 300): lineOf(1, slices.Repeat([]int{119}, 300)...),
		"10 0 0 0":                        lineOf(10, 0, 0, 0),
	} {
		if s := line.FormatLine(l); s != text {
			t.Errorf("FormatLine of %v: %q, want %q", l, s, text)
		}
		if back, e := line.ParseLine(text); e != api.OK || back.Measure != l.Measure || !slices.Equal(back.Sorts, l.Sorts) {
			t.Errorf("ParseLine of %q: %v, error %d", text, back, e)
		}
	}
	// Any line has a text, but not each text is read.
	if s := line.FormatLine(lineOf(-1<<63, 1<<63-1)); s != "-9223372036854775808 9223372036854775807" {
		t.Errorf("FormatLine of great numbers: %q", s)
	}
	if s := line.FormatLine(lineOf(1, slices.Repeat([]int{0}, 1000)...)); s != "1"+strings.Repeat(" 0", 1000) {
		t.Errorf("FormatLine of 1000 sorts: %q", s)
	}
}

func TestLineTextErrors(t *testing.T) {
	for _, s := range []string{
		"", " ", "a", "1 a", "1  2", " 1", "1 ", "1 2 ", "1\t2", "1\n", "1 2\n", "+1", "1 +2", "01", "1 00", "-0", "1 -0",
		"-", "1 -", "--1", "1 -01", "1.0", "1,2", "0x1", "1_0", "10000000", "-10000000", "1 10000000", "1 00000001",
		"99999999999999999999", "1 2 \u0663", "1" + strings.Repeat(" 0", 301) + " a",
	} {
		l, e := line.ParseLine(s)
		wantLine(t, "ParseLine of "+s, l, e, "", api.ErrSyntax)
	}
	for _, n := range []int{301, 5000} {
		l, e := line.ParseLine("1" + strings.Repeat(" 0", n))
		wantLine(t, "ParseLine of too many sorts", l, e, "", api.ErrLarge)
	}
}
