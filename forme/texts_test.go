package forme_test

import (
	"strconv"
	"strings"
	"testing"

	"tympan/api"
	"tympan/forme"
)

const lockedText = "chase 10 6\npage p 0 0 6 4\nfurniture f 6 0 2 4\nfurniture g 0 4 8 1\nacross qa 8 0 2 5\ndown qd 0 5 10 1\n"

// P7.7: the texts of formes, and these read.
func TestTexts(t *testing.T) {
	for text, f := range map[string]api.Forme{
		lockedText:          locked(),
		"chase 1 1\n":       formeOf(1, 1),
		"chase 4000 4000\n": formeOf(4000, 4000),
		"chase 4000 4000\ndown abcdefghij-9 0 3999 4000 1\npage P1 3999 0 1 3999\n":                                     formeOf(4000, 4000, quoinDown("abcdefghij-9", 0, 3999, 4000, 1), page("P1", 3999, 0, 1, 3999)),
		"chase 3 3\nfurniture mid 1 1 1 1\ndown low 1 2 2 1\npage top 0 0 2 1\nacross end 2 0 1 2\npage side 0 1 1 2\n": wheel(),
	} {
		s, e := forme.Print(f)
		want(t, "Print", s, e, text, api.OK)
		read, n, e := forme.Parse(text)
		want(t, "Parse", read, e, f, api.OK)
		want(t, "Parse, the line", n, e, 0, api.OK)
	}
}

// P7.7: the line that has not its form.
func TestWrongLines(t *testing.T) {
	first := []string{
		"\n", "chase 10 6", "chase 10\n", "chase\n", "chase 10 6 1\n", "chase 10 6 \n", " chase 10 6\n", "chase  10 6\n", "chase 10  6\n", "Chase 10 6\n",
		"chase 10 x\n", "chase 010 6\n", "chase +10 6\n", "chase 10 -0\n", "chase 10 00\n", "chase 10000000 6\n", "chase 10 -10000000\n", "chase 10 6\r\n", "chase\t10 6\n",
		"chase -  6\n", "chase 10 --6\n", "chase 1e1 6\n", "chase 1_0 6\n", "chase 0x9 6\n", "page p 0 0 6 4\n", "form 10 6\n", " 10 6\n", "10 6\n", "chase p 10 6\n",
		"page 10 6\n", "chase 99999999999999999999 6\n", "chase 10 6.0\n",
	}
	checkWrongText(t, "", 1, api.ErrSyntax)
	for _, s := range first {
		checkWrongText(t, s, 1, api.ErrSyntax)
		checkWrongText(t, s+lockedText, 1, api.ErrSyntax)
	}
	for _, line := range []string{
		"\n", "page p 0 0 6 4", "page\n", "page p\n", "page p 0 0 6\n", "page p 0 0 6 4 1\n", "page p 0 0 6 4 \n", " page p 0 0 6 4\n", "page p  0 0 6 4\n", "page 0 0 6 4\n",
		"page  p 0 0 6 4\n", "Page p 0 0 6 4\n", "quoin p 0 0 6 4\n", " p 0 0 6 4\n", "p 0 0 6 4\n", "chase 10 6\n", "chase p 0 0 6 4\n", "page p 0 0 6 x\n",
		"page p 00 0 6 4\n", "page p 0 -0 6 4\n", "page p 0 0 +6 4\n", "page p 0 0 6 04\n", "page p 10000000 0 6 4\n", "page p 0 -10000000 6 4\n", "page p 0 0 6 \n",
		"page p 0 0 6 4\r\n", "page\tp 0 0 6 4\n", "pages p 0 0 6 4\n", "down", "across a 0 0 1 1", "furniture f 0 0 1\n", "down d 0 0 1 --1\n", "1 p 0 0 6 4\n", "2 0 0 6 4\n",
	} {
		checkWrongText(t, "chase 10 6\n"+line, 2, api.ErrSyntax)
		checkWrongText(t, "chase 0 0\n"+strings.Repeat("page p 0 0 6 4\n", 100)+line, 102, api.ErrSyntax)
		if strings.HasSuffix(line, "\n") {
			checkWrongText(t, "chase 10 6\n"+line+"x", 2, api.ErrSyntax)
		}
	}
	checkWrongText(t, lockedText+"\n", 7, api.ErrSyntax)
	checkWrongText(t, lockedText+" ", 7, api.ErrSyntax)
	checkWrongText(t, strings.TrimSuffix(lockedText, "\n"), 6, api.ErrSyntax)
	checkWrongText(t, lockedText+lockedText, 7, api.ErrSyntax)
}

func checkWrongText(t *testing.T, s string, line int, wantError api.Errno) {
	t.Helper()
	what := "Parse of " + strconv.Quote(s[:min(len(s), 60)])
	f, n, e := forme.Parse(s)
	want(t, what, f, e, api.Forme{}, wantError)
	want(t, what+", the line", n, e, line, wantError)
}

// P7.7: texts whose lines have their form, but whose formes are wrong.
func TestTextsOfWrongFormes(t *testing.T) {
	for _, c := range []struct {
		s string
		e api.Errno
	}{
		{"chase 0 6\n", api.ErrRange},
		{"chase 10 4001\n", api.ErrRange},
		{"chase -9999999 9999999\n", api.ErrRange},
		{"chase 0 0\npage  0 0 0 0\n", api.ErrRange},
		{"chase 10 6\n" + strings.Repeat("page p 0 0 6 4\n", 61), api.ErrLarge},
		{"chase 10 6\n" + strings.Repeat("page p 0 0 6 4\n", 60), api.ErrExists},
		{"chase 10 6\npage  0 0 6 4\n", api.ErrName},
		{"chase 10 6\npage 1 0 0 6 4\n", api.ErrName},
		{"chase 10 6\npage \r\x00\xff/ 0 0 6 4\n", api.ErrName},
		{"chase 10 6\npage p\t 0 0 6 4\n", api.ErrName},
		{"chase 10 6\npage " + strings.Repeat("p", 59000) + " 0 0 6 4\n", api.ErrName},
		{"chase 10 6\npage p -1 0 6 4\n", api.ErrBreak},
		{"chase 10 6\npage p 0 -9999999 6 4\n", api.ErrBreak},
		{"chase 10 6\npage p 9999999 0 6 4\n", api.ErrBreak},
		{"chase 10 6\npage p 0 0 -6 4\n", api.ErrBreak},
		{"chase 10 6\npage p 0 0 6 0\n", api.ErrBreak},
		{"chase 10 6\npage p 0 0 6 4\ndown q 5 3 1 1\n", api.ErrDouble},
		{strings.Repeat("x", 60001), api.ErrLarge},
		{"chase 10 6\n" + strings.Repeat("\n", 60000), api.ErrLarge},
	} {
		checkWrongText(t, c.s, 0, c.e)
	}
	checkWrongText(t, strings.Repeat("x", 60000), 1, api.ErrSyntax)
	long := "chase 10 6\npage " + strings.Repeat("p", 60000-len("chase 10 6\npage  0 0 6 4\n")) + " 0 0 6 4\n"
	checkWrongText(t, long, 0, api.ErrName)
}

// P7.7: what is wrong with a forme that is printed.
func TestPrintOfWrongFormes(t *testing.T) {
	for _, c := range wrongFormes() {
		s, e := forme.Print(c.f)
		want(t, "Print, "+c.what, s, e, "", c.e)
	}
}

// P7.10: Parse undoes Print.
func TestTextsBack(t *testing.T) {
	m := newMaker(11)
	for range 1000 {
		f := m.gapped(12)
		text, e := forme.Print(f)
		if e != api.OK {
			t.Fatalf("Print of %v: error %d", f, e)
		}
		back, n, e := forme.Parse(text)
		want(t, "Parse of Print", back, e, f, api.OK)
		want(t, "Parse of Print, the line", n, e, 0, api.OK)
	}
}
