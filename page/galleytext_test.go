package page_test

import (
	"slices"
	"strconv"
	"strings"
	"testing"

	"tympan/api"
	"tympan/page"
)

func sameGalley(a, b api.PageGalley) bool {
	return slices.Equal(a.Items, b.Items) && slices.Equal(a.Notes, b.Notes)
}

// P5.7, P5.12: galleys and their texts.
func TestTexts(t *testing.T) {
	many := noted(galleyOf(slices.Repeat([]api.PageItem{row(2000)}, 200)...), same(2000, 40)...)
	long := strings.Repeat("row 2000\n", 160)
	for note := range many.Notes {
		many.Items[160+note].Note = note
		long += "row 2000 " + strconv.Itoa(note) + "\n"
	}
	for text, g := range map[string]api.PageGalley{
		"text 12 1 2\ntext 12 2 2 0\ngap 6\nheading 14\nnote 10\n": noted(galleyOf(text(12, 1, 2), calling(text(12, 2, 2), 0), gap(6), heading(14)), 10),
		"": {},
		"text 12 1 3\ntext 12 2 3\ntext 12 3 3\ngap 6\nheading 14\ntext 12 1 2\ntext 12 2 2\n": example(),
		"row 1\n": galleyOf(row(1)),
		"gap 2000\ntext 7 1 1 0\nheading 8 1\nrow 9 2\nnote 1\nnote 2000\nnote 3\n": noted(galleyOf(gap(2000), calling(text(7, 1, 1), 0), calling(heading(8), 1), calling(row(9), 2)), 1, 2000, 3),
		long + strings.Repeat("note 2000\n", 40):                                    many,
	} {
		if s, e := page.Print(g); s != text || e != api.OK {
			t.Errorf("Print of %v: %q, error %d, want %q", g, s, e, text)
		}
		if back, n, e := page.Parse(text); !sameGalley(back, g) || n != 0 || e != api.OK {
			t.Errorf("Parse of %q: %v, %d, error %d", text, back, n, e)
		}
	}
}

// P5.12: made galleys are read back.
func TestMadeTexts(t *testing.T) {
	m := newMaker(9)
	for range 1000 {
		g := m.book().g
		s, e := page.Print(g)
		if back, n, e2 := page.Parse(s); e != api.OK || e2 != api.OK || n != 0 || !sameGalley(back, g) {
			t.Errorf("Print of %v: %q, error %d, read as %v, %d, error %d", g, s, e, back, n, e2)
		}
	}
}

// P5.7: texts of no galley.
func TestTextErrors(t *testing.T) {
	for _, c := range []struct {
		s string
		n int
		e api.Errno
	}{
		{strings.Repeat("x", 60001), 0, api.ErrLarge},
		{strings.Repeat("row 1\n", 10001), 0, api.ErrLarge},
		{strings.Repeat("x", 60000), 1, api.ErrSyntax},
		{strings.Repeat("row 1\n", 10000), 0, api.ErrLarge},
		{strings.Repeat("row 1\n", 9999) + "row 2", 10000, api.ErrSyntax},
		{strings.Repeat("gap 1\n", 201), 0, api.ErrLarge},
		{"row 0\n" + strings.Repeat("note 1\n", 41), 0, api.ErrLarge},
		// The first line that is wrong.
		{"row 1\nrow 2\nrow\nrow\n", 3, api.ErrSyntax},
		{"row 0\nrow 2\nrow 3", 3, api.ErrSyntax},
		{"row 1\n\n", 2, api.ErrSyntax},
		{"row 1\n\nrow 2\n", 2, api.ErrSyntax},
		{"row 1 0\nnote 1\nrow 2\nrow\n", 3, api.ErrSyntax},
		{"note 1\ngap 1\n", 2, api.ErrSyntax},
		{"note 1\nnote 1\ntext 1 1 1\n", 3, api.ErrSyntax},
		{"note 1\nheading 1\n", 2, api.ErrSyntax},
		{"note 1\nnote\n", 2, api.ErrSyntax},
		// Errors of a galley.
		{"row -1\n", 0, api.ErrRange},
		{"row 2001\n", 0, api.ErrRange},
		{"row 9999999\n", 0, api.ErrRange},
		{"row -9999999 0\n", 0, api.ErrRange},
		{"note 0\n", 0, api.ErrRange},
		{"row 0\nnote -9999999\n", 0, api.ErrRange},
		{"gap 1 0\nnote 1\n", 0, api.ErrForm},
		{"text 1 2 2\n", 0, api.ErrOrder},
		{"text 1 -1 -1\n", 0, api.ErrOrder},
		{"text 1 0 9999999\n", 0, api.ErrOrder},
		{"text 1 1 2\nrow 1\ntext 1 2 2\n", 0, api.ErrOrder},
		{"row 1 0\n", 0, api.ErrMissing},
		{"row 1 9999999\nnote 1\n", 0, api.ErrMissing},
		{"row 1 0\nrow 1 0\nnote 1\n", 0, api.ErrDouble},
		{"text 1 1 2\n", 0, api.ErrOpen},
		{"note 1\n", 0, api.ErrGap},
		{"row 1\nnote 1\n", 0, api.ErrGap},
	} {
		if g, n, e := page.Parse(c.s); e != c.e || n != c.n || !isZero([]any{g}) {
			t.Errorf("Parse of %.40q: %v, %d, error %d, want %d, error %d", c.s, g, n, e, c.n, c.e)
		}
	}
	for _, s := range []string{
		"\n", " \n", "row\n", "row \n", "row  1\n", " row 1\n", "row 1 \n", "row 1  0\n", "row\t1\n", "row 1\t\n", "row 1\r\n", "Row 1\n", "rows 1\n", "ro 1\n",
		"1\n", "12 1 2\n", "row a\n", "row 1 a\n", "row 1 -1\n", "row 1 0 0\n", "row +1\n", "row 01\n", "row -0\n", "row -01\n", "row 1.0\n", "row 10000000\n",
		"row -10000000\n", "row 1 00\n", "row 1 +0\n", "row 1 -0\n", "row 1 10000000\n", "row 0x1\n", "row 1_0\n", "row -\n", "row --1\n", "row \u0663\n",
		"row 99999999999999999999\n", "heading\n", "heading 1 -2\n", "heading 1 0 1\n", "gap\n", "gap 1 -1\n", "gap 1 0 0\n", "text\n", "text 1\n", "text 1 1\n",
		"text 1 1 1 -1\n", "text 1 1 1 0 0\n", "text 1 1 1 \n", "note\n", "note 1 0\n", "note a\n", "note \n", "row 1", "note 1", "x", "row 1\x00\n", "row1\n", "foot 1\n", "foot 1 1 1\n", "Text 1 1 1\n", "1 1 1 1\n", "-1 1\n", " 1\n",
	} {
		if g, n, e := page.Parse(s); e != api.ErrSyntax || n != 1 || !isZero([]any{g}) {
			t.Errorf("Parse of %q: %v, %d, error %d", s, g, n, e)
		}
	}
}
