package fount_test

import (
	"reflect"
	"strconv"
	"strings"
	"testing"

	"tympan/api"
	"tympan/fount"
)

const romanText = "fount rom 10\nletter a a 300\nletter b b 330\nligature fi fi 360\nspace thick 200\nspace thin 120\n"

// P1.6: the text of a fount.
func TestPrint(t *testing.T) {
	if s, e := fount.Print(roman()); s != romanText || e != api.OK {
		t.Errorf("Print: %q, %d", s, e)
	}
	f := api.Fount{Name: "X-1", Body: 144, Sorts: []api.TypeSort{{Name: "note", Text: "/", Kind: api.SortLetter, Width: 100000}}}
	if s, e := fount.Print(f); s != "fount X-1 144\nletter note / 100000\n" || e != api.OK {
		t.Errorf("Print: %q, %d", s, e)
	}
}

// P1.6: texts of the same fount.
func TestParse(t *testing.T) {
	for _, s := range []string{
		romanText,
		strings.TrimSuffix(romanText, "\n"),
		strings.ReplaceAll(romanText, " ", " \t "),
		strings.ReplaceAll(romanText, "\n", "\t\n\n \t\nnote\nnote ..\n note\t1/0\n\tnote fount\n"),
		"note the fount\n" + romanText,
		"\n\n\t\n" + romanText + "\n \nnote",
		strings.ReplaceAll(romanText, "\n", "\nnote letter c c 300\n"),
		strings.ReplaceAll(romanText, "\n", " \n  "),
		strings.Replace(romanText, "thick 200", "thick 1/3", 1),
		strings.Replace(romanText, "thin 120", "thin 1/5", 1),
		strings.Replace(romanText, "a 300", "a 9/18", 1),
		strings.Replace(romanText, "b 330", "b 33/60", 1),
		strings.Replace(romanText, "fi 360", "fi 5999994/9999990", 1),
	} {
		f, m, e := fount.Parse(s)
		if e != api.OK || m != (api.TextMark{}) || !reflect.DeepEqual(f, roman()) {
			t.Errorf("Parse %q: %v, %v, %d", s, f, m, e)
		}
	}
}

// P1.6: what only just is a fount.
func TestParseEdges(t *testing.T) {
	for _, c := range []struct {
		text string
		sort api.TypeSort
	}{
		{"fount rom 1\nspace s 1", api.TypeSort{Name: "s", Kind: api.SortSpace, Width: 1}},
		{"fount rom 144\nspace s 100000", api.TypeSort{Name: "s", Kind: api.SortSpace, Width: 100000}},
		{"fount rom 144\nspace s 5/3", api.TypeSort{Name: "s", Kind: api.SortSpace, Width: 14400}},
		{"fount rom 1\nspace s 9999960/9999960", api.TypeSort{Name: "s", Kind: api.SortSpace, Width: 60}},
		{"fount rom 1\nspace s 1/60", api.TypeSort{Name: "s", Kind: api.SortSpace, Width: 1}},
		{"fount rom 1\nspace rom 3/2", api.TypeSort{Name: "rom", Kind: api.SortSpace, Width: 90}},
		{"fount rom 1\nletter note ! 7", api.TypeSort{Name: "note", Text: "!", Kind: api.SortLetter, Width: 7}},
		{"fount note 1\nligature fount ~~~~ 7", api.TypeSort{Name: "fount", Text: "~~~~", Kind: api.SortLigature, Width: 7}},
	} {
		f, m, e := fount.Parse(c.text)
		if e != api.OK || m != (api.TextMark{}) || len(f.Sorts) != 1 || f.Sorts[0] != c.sort {
			t.Errorf("Parse %q: %v, %v, %d", c.text, f, m, e)
		}
	}
}

// P1.6: each error, with its place.
func TestParseErrors(t *testing.T) {
	const head = "fount rom 10\n"
	const first = head + "letter a a 300\n"
	for _, c := range []struct {
		text         string
		line, column int
		e            api.Errno
	}{
		// The first word.
		{"letter a a 300\n", 1, 1, api.ErrSyntax},
		{"space", 1, 1, api.ErrSyntax},
		{"  founts rom 10", 1, 3, api.ErrSyntax},
		{"note\n\n\tFount rom 10", 3, 2, api.ErrSyntax},
		{"notes\n", 1, 1, api.ErrSyntax},
		{"fount\r\n", 1, 1, api.ErrSyntax},
		{"\x00", 1, 1, api.ErrSyntax},
		{head + "fount rom 10\n", 2, 1, api.ErrSyntax},
		{head + "letters a a 300\n", 2, 1, api.ErrSyntax},
		{head + "\n note\n \t Space s 7\n", 4, 4, api.ErrSyntax},
		{head + "\x00\n", 2, 1, api.ErrSyntax},
		{first + "\r\n", 3, 1, api.ErrSyntax},
		// The name.
		{"fount", 1, 6, api.ErrMissing},
		{" fount \t", 1, 7, api.ErrMissing},
		{head + "letter\n", 2, 7, api.ErrMissing},
		{head + "ligature \n", 2, 9, api.ErrMissing},
		{head + "\tspace", 2, 7, api.ErrMissing},
		{"fount 1 10\n", 1, 7, api.ErrName},
		{"fount abcdefghijklm 10\n", 1, 7, api.ErrName},
		{"fount a. 10\n", 1, 7, api.ErrName},
		{head + "letter  1 1 300\n", 2, 9, api.ErrName},
		{head + "space abcdefghijklm 300\n", 2, 7, api.ErrName},
		{first + "letter a b 300\n", 3, 8, api.ErrExists},
		{first + "space a 300\n", 3, 7, api.ErrExists},
		// What a sort prints.
		{head + "letter a", 2, 9, api.ErrMissing},
		{head + "ligature fi \n", 2, 12, api.ErrMissing},
		{head + "letter a ab 300\n", 2, 10, api.ErrForm},
		{head + "letter a \x7f 300\n", 2, 10, api.ErrForm},
		{head + "letter a \r 300\n", 2, 10, api.ErrForm},
		{head + "letter a 300\n", 2, 10, api.ErrForm},
		{head + "letter a \xc3\xa9 300\n", 2, 10, api.ErrForm},
		{head + "ligature fi f 300\n", 2, 13, api.ErrForm},
		{head + "ligature fi ffffi 300\n", 2, 13, api.ErrForm},
		{first + "letter b a 300\n", 3, 10, api.ErrClash},
		{head + "ligature fi fi 7\nligature fl fi 7\n", 3, 13, api.ErrClash},
		// The body.
		{"fount rom\n", 1, 10, api.ErrMissing},
		{"fount  rom  ", 1, 11, api.ErrMissing},
		{"fount rom x\n", 1, 11, api.ErrSyntax},
		{"fount rom 010\n", 1, 11, api.ErrSyntax},
		{"fount rom 00\n", 1, 11, api.ErrSyntax},
		{"fount rom -1\n", 1, 11, api.ErrSyntax},
		{"fount rom +1\n", 1, 11, api.ErrSyntax},
		{"fount rom -0\n", 1, 11, api.ErrSyntax},
		{"fount rom 1/1\n", 1, 11, api.ErrSyntax},
		{"fount rom 10000000\n", 1, 11, api.ErrSyntax},
		{"fount rom 10\r\n", 1, 11, api.ErrSyntax},
		{"fount rom 9999999\n", 1, 11, api.ErrRange},
		{"fount rom 0\n", 1, 11, api.ErrRange},
		{"fount rom 145\n", 1, 11, api.ErrRange},
		// The width.
		{head + "letter a a\n", 2, 11, api.ErrMissing},
		{head + "space s ", 2, 8, api.ErrMissing},
		{head + "space s x\n", 2, 9, api.ErrSyntax},
		{head + "space s 0300\n", 2, 9, api.ErrSyntax},
		{head + "space s -300\n", 2, 9, api.ErrSyntax},
		{head + "space s 10000000\n", 2, 9, api.ErrSyntax},
		{head + "space s /\n", 2, 9, api.ErrSyntax},
		{head + "space s 1/\n", 2, 9, api.ErrSyntax},
		{head + "space s /3\n", 2, 9, api.ErrSyntax},
		{head + "space s 1/2/3\n", 2, 9, api.ErrSyntax},
		{head + "space s 1//3\n", 2, 9, api.ErrSyntax},
		{head + "space s 1/03\n", 2, 9, api.ErrSyntax},
		{head + "space s 1/-3\n", 2, 9, api.ErrSyntax},
		{head + "space s 01/3\n", 2, 9, api.ErrSyntax},
		{head + "space s 1/10000000\n", 2, 9, api.ErrSyntax},
		{head + "space s 10000000/1\n", 2, 9, api.ErrSyntax},
		{head + "space s x/0\n", 2, 9, api.ErrSyntax},
		{head + "space s 1/00\n", 2, 9, api.ErrSyntax},
		{head + "space s 1/0\n", 2, 9, api.ErrZero},
		{head + "space s 0/0\n", 2, 9, api.ErrZero},
		{head + "space s 1/7\n", 2, 9, api.ErrForm},
		{head + "space s 9999999/7\n", 2, 9, api.ErrForm},
		{head + "space s 0/3\n", 2, 9, api.ErrRange},
		{head + "space s 0\n", 2, 9, api.ErrRange},
		{head + "space s 100001\n", 2, 9, api.ErrRange},
		{head + "space s 9999999/1\n", 2, 9, api.ErrRange},
		// One word more.
		{"fount rom 10 x\n", 1, 14, api.ErrSyntax},
		{head + "letter a a 300 9\n", 2, 16, api.ErrSyntax},
		{head + "space s 300\t note x\n", 2, 14, api.ErrSyntax},
		{first + "space s 300  1/0", 3, 14, api.ErrSyntax},
		// Behind all lines.
		{"", 1, 1, api.ErrMissing},
		{"\n", 2, 1, api.ErrMissing},
		{" ", 2, 1, api.ErrMissing},
		{" \n\t", 3, 1, api.ErrMissing},
		{"note fount rom 10", 2, 1, api.ErrMissing},
		{"note\n\n\n", 4, 1, api.ErrMissing},
		{head, 2, 1, api.ErrShape},
		{"fount rom 10", 2, 1, api.ErrShape},
		{head + "\n", 3, 1, api.ErrShape},
		{head + " ", 3, 1, api.ErrShape},
		{head + "note\nnote", 4, 1, api.ErrShape},
		// Of several errors the first one, line by line and word by word.
		{"x 1 x\nfount", 1, 1, api.ErrSyntax},
		{"fount 1 0 x\n", 1, 7, api.ErrName},
		{"fount rom 0 x\n", 1, 11, api.ErrRange},
		{"fount rom 0\nx\n", 1, 11, api.ErrRange},
		{"fount 1", 1, 7, api.ErrName},
		{first + "letter a a x 9\nx", 3, 8, api.ErrExists},
		{first + "letter b a x 9\nx", 3, 10, api.ErrClash},
		{first + "letter b b x 9\nx", 3, 12, api.ErrSyntax},
		{first + "letter b b 7 9\nx", 3, 14, api.ErrSyntax},
		{first + "letter b\nx", 3, 9, api.ErrMissing},
	} {
		f, m, e := fount.Parse(c.text)
		if e != c.e || m != (api.TextMark{Line: c.line, Column: c.column}) {
			t.Errorf("Parse %q: %v, %d, want {%d %d}, %d", c.text, m, e, c.line, c.column, c.e)
		}
		if f.Name != "" || f.Body != 0 || len(f.Sorts) != 0 {
			t.Errorf("Parse %q: the fount %v beside an error", c.text, f)
		}
	}
}

// P1.6: as many sorts and bytes as may be, and more.
func TestParseLimits(t *testing.T) {
	text, e := fount.Print(wide(120))
	if e != api.OK {
		t.Fatalf("Print: %d", e)
	}
	if f, m, e := fount.Parse(text); e != api.OK || m != (api.TextMark{}) || !reflect.DeepEqual(f, wide(120)) {
		t.Errorf("Parse of 120 sorts: %v, %d", m, e)
	}
	for _, line := range []string{" space x 7\n", " letter", " ligature 1 1 1"} {
		if _, m, e := fount.Parse(text + line); e != api.ErrLarge || m != (api.TextMark{Line: 122, Column: 2}) {
			t.Errorf("Parse of 121 sorts: %v, %d", m, e)
		}
	}
	if _, m, e := fount.Parse(text + "x"); e != api.ErrSyntax || m != (api.TextMark{Line: 122, Column: 1}) {
		t.Errorf("Parse of no sort behind 120: %v, %d", m, e)
	}
	full := romanText + strings.Repeat("\n", 60000-len(romanText))
	if f, _, e := fount.Parse(full); e != api.OK || !reflect.DeepEqual(f, roman()) {
		t.Errorf("Parse of 60000 bytes: %d", e)
	}
	for _, s := range []string{full + "\n", strings.Repeat("x", 60001)} {
		if f, m, e := fount.Parse(s); e != api.ErrLarge || m != (api.TextMark{}) || f.Name != "" || len(f.Sorts) != 0 {
			t.Errorf("Parse of 60001 bytes: %v, %v, %d", f, m, e)
		}
	}
}

// P1.6: at each place of a text a byte is taken away, or put in another one's place: there is
// either a fount, or an error at a place in the text.
func TestParseOfChangedTexts(t *testing.T) {
	for i := range len(romanText) {
		checkParse(t, romanText[:i])
		checkParse(t, romanText[:i]+romanText[i+1:])
		for _, b := range []string{" ", "\n", "\t", "0", "/", "a", "-", "\xff"} {
			checkParse(t, romanText[:i]+b+romanText[i+1:])
			checkParse(t, romanText[:i]+b+romanText[i:])
		}
	}
}

func checkParse(t *testing.T, text string) {
	t.Helper()
	f, m, e := fount.Parse(text)
	if e == api.OK {
		if n, e := fount.CheckFount(f); n != 0 || e != api.OK || m != (api.TextMark{}) {
			t.Errorf("Parse %q: a fount with error %d at %d", text, e, n)
		}
		return
	}
	lines := strings.Split(text, "\n")
	behind := len(lines) + 1
	if lines[len(lines)-1] == "" {
		behind--
	}
	if m.Line < 1 || m.Line > behind || m.Column < 1 {
		t.Errorf("Parse %q: the mark %v", text, m)
	} else if m.Line == behind {
		if m.Column != 1 || e != api.ErrMissing && e != api.ErrShape {
			t.Errorf("Parse %q: the mark %v behind the text, error %d", text, m, e)
		}
	} else if m.Column > len(lines[m.Line-1])+1 {
		t.Errorf("Parse %q: the mark %v behind its line", text, m)
	}
}

// P1.7: texts of cases.
func TestCaseTexts(t *testing.T) {
	for _, c := range []struct {
		counts []int
		text   string
	}{
		{[]int{3, 2, 0, 5, 5}, "a 3 b 2 thick 5 thin 5"},
		{[]int{0, 0, 0, 0, 0}, ""},
		{[]int{0, 0, 1, 0, 0}, "fi 1"},
		{[]int{0, 10, 0, 0, 1000000}, "b 10 thin 1000000"},
	} {
		if s, e := fount.FormatCase(roman(), c.counts); s != c.text || e != api.OK {
			t.Errorf("FormatCase %v: %q, %d", c.counts, s, e)
		}
		l, e := fount.ParseCase(roman(), c.text)
		wantList(t, "ParseCase "+c.text, l, e, c.counts, api.OK)
	}
}

func TestParseCaseErrors(t *testing.T) {
	for _, c := range []struct {
		text string
		e    api.Errno
	}{
		{" ", api.ErrSyntax},
		{"a", api.ErrSyntax},
		{"a 3 b", api.ErrSyntax},
		{" a 3", api.ErrSyntax},
		{"a 3 ", api.ErrSyntax},
		{"a  3", api.ErrSyntax},
		{"a 3  b 2", api.ErrSyntax},
		{"a\t3", api.ErrSyntax},
		{"x 3 b", api.ErrSyntax},
		{"b 2 a 3 x", api.ErrSyntax},
		{"x 3", api.ErrMissing},
		{"x x", api.ErrMissing},
		{"\t 3", api.ErrMissing},
		{"a 3 x 0", api.ErrMissing},
		{"A 3", api.ErrMissing},
		{"a\n 3", api.ErrMissing},
		{"rom 3", api.ErrMissing},
		{"b 2 a 3", api.ErrOrder},
		{"a 3 a 3", api.ErrOrder},
		{"a 3 thin 1 fi x", api.ErrOrder},
		{"a x", api.ErrSyntax},
		{"a -1", api.ErrSyntax},
		{"a +1", api.ErrSyntax},
		{"a -0", api.ErrSyntax},
		{"a 03", api.ErrSyntax},
		{"a 00", api.ErrSyntax},
		{"a 3\n", api.ErrSyntax},
		{"a \t", api.ErrSyntax},
		{"a 1/1", api.ErrSyntax},
		{"a 10000000", api.ErrSyntax},
		{"a 99999999999999999999", api.ErrSyntax},
		{"a 0", api.ErrRange},
		{"a 1000001", api.ErrRange},
		{"a 9999999", api.ErrRange},
		{"a 0 x 1", api.ErrRange},
		{"a x b 0", api.ErrSyntax},
		{"b 0 a x", api.ErrRange},
	} {
		l, e := fount.ParseCase(roman(), c.text)
		wantList(t, "ParseCase "+strconv.Quote(c.text), l, e, nil, c.e)
	}
}
