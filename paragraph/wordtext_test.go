package paragraph_test

import (
	"slices"
	"strings"
	"testing"

	"tympan/api"
	"tympan/paragraph"
)

// isWord tells whether two words are the same.
func isWord(a, b api.ParagraphWord) bool {
	return slices.Equal(a.Sorts, b.Sorts) && slices.Equal(a.Breaks, b.Breaks)
}

// P4.6, P4.10: the texts of words.
func TestWordTexts(t *testing.T) {
	for text, w := range map[string]api.ParagraphWord{
		"0 0/1":                 divided(word(0, 0), 1),
		"0/":                    word(0),
		"/":                     {},
		"/1":                    {Breaks: []int{1}},
		"12 0 119/1 2":          divided(word(12, 0, 119), 1, 2),
		"5 5/2 1 1":             divided(word(5, 5), 2, 1, 1),
		"9999999 -9999999/-1 0": divided(word(9999999, -9999999), -1, 0),
		"7" + strings.Repeat(" 119", 59) + "/3" + strings.Repeat(" 59", 59): divided(
			word(append([]int{7}, same(119, 59)...)...), append([]int{3}, same(59, 59)...)...),
	} {
		if s := paragraph.FormatWord(w); s != text {
			t.Errorf("FormatWord of %v: %q, want %q", w, s, text)
		}
		if back, e := paragraph.ParseWord(text); e != api.OK || !isWord(back, w) {
			t.Errorf("ParseWord of %q: %v, error %d", text, back, e)
		}
	}
	// Any word has a text, but not each text is read.
	if s := paragraph.FormatWord(divided(word(-1<<63), 1<<63-1)); s != "-9223372036854775808/9223372036854775807" {
		t.Errorf("FormatWord of great numbers: %q", s)
	}
	if s := paragraph.FormatWord(word(same(0, 1000)...)); s != "0"+strings.Repeat(" 0", 999)+"/" {
		t.Errorf("FormatWord of 1000 sorts: %q", s)
	}
	if s := paragraph.FormatWord(api.ParagraphWord{Sorts: []int{}, Breaks: []int{}}); s != "/" {
		t.Errorf("FormatWord of nothing: %q", s)
	}
}

func TestWordTextErrors(t *testing.T) {
	many := "0" + strings.Repeat(" 0", 60)
	for _, c := range []struct {
		s string
		e api.Errno
	}{
		{many + "/", api.ErrLarge},
		{"/" + many, api.ErrLarge},
		{"0/" + many, api.ErrLarge},
		{many + " a/", api.ErrSyntax},
		{many + "/a", api.ErrSyntax},
		{many, api.ErrSyntax},
		{many + "/ ", api.ErrSyntax},
	} {
		if w, e := paragraph.ParseWord(c.s); e != c.e || !isWord(w, word()) {
			t.Errorf("ParseWord of %q: %v, error %d, want %d", c.s, w, e, c.e)
		}
	}
	for _, s := range []string{
		"", "0", "0 1", "0 /", " 0/", "0/ 1", "0/1 ", "0  0/", "0/1  2", "0//", "0/1/", "0/1/2", "//", "a/", "0/a", "0\t1/",
		"0/1\n", "0\n/", "+1/", "01/", "0/01", "00/", "-0/", "0/-0", "-/", "--1/", "1.0/", "0,1/", "0x1/", "1_0/",
		"10000000/", "-10000000/", "0/10000000", "00000001/", "99999999999999999999/", "\u0663/", " /", "/ ", " ",
	} {
		if w, e := paragraph.ParseWord(s); e != api.ErrSyntax || !isWord(w, word()) {
			t.Errorf("ParseWord of %q: %v, error %d", s, w, e)
		}
	}
}
