package impose_test

import (
	"strconv"
	"strings"
	"testing"

	"tympan/api"
	"tympan/impose"
)

// P6.6: the texts of folds, whatever they are.
func TestFormatFolds(t *testing.T) {
	fold := func(kind, count int) api.ImposeFold { return api.ImposeFold{Kind: kind, Count: count} }
	for _, c := range []struct {
		l    []api.ImposeFold
		want string
	}{
		{nil, ""},
		{folds(left(1), up(1)), "L1 U1"},
		{folds(left(4), right(3), up(2), down(1), over(), round()), "L4 R3 U2 D1 O T"},
		{folds(left(0), right(-1), up(100), down(great)), "L0 R-1 U100 D9223372036854775807"},
		{folds(fold(5, 3), fold(6, -3)), "O T"},
		{folds(fold(0, 3), fold(7, 0), fold(-1, -4), fold(great, 1), fold(small, 2)), "?3 ?0 ?-4 ?1 ?2"},
		{make([]api.ImposeFold, 13), strings.TrimSuffix(strings.Repeat("?0 ", 13), " ")},
	} {
		if s := impose.FormatFolds(c.l); s != c.want {
			t.Errorf("FormatFolds of %v: %q, want %q", c.l, s, c.want)
		}
	}
}

// P6.6: folds that are read, and what is none.
func TestParseFolds(t *testing.T) {
	for s, wanted := range map[string][]api.ImposeFold{
		"":                      nil,
		"L1":                    folds(left(1)),
		"L1 U1":                 folds(left(1), up(1)),
		"L4 R3 U2 D1 O T":       folds(left(4), right(3), up(2), down(1), over(), round()),
		"L0 R99 U10 D9":         folds(left(0), right(99), up(10), down(9)),
		"O O O O O O T T T T T": append(make([]api.ImposeFold, 0), over(), over(), over(), over(), over(), over(), round(), round(), round(), round(), round()),
	} {
		l, e := impose.ParseFolds(s)
		want(t, "ParseFolds of "+strconv.Quote(s), l, e, wanted, api.OK)
	}
	twelve := strings.Repeat("L1 ", 11) + "L1"
	if l, e := impose.ParseFolds(twelve); e != api.OK || len(l) != 12 {
		t.Errorf("ParseFolds of twelve: %v, error %d", l, e)
	}
	for _, s := range []string{
		" ", "L", "L1 ", " L1", "L1  U1", "L1\n", "L1\tU1", "L1,U1", "L1U1", "l1", "X1", "?1", "?", "1L", "1", "L 1", "L-1", "L-0", "L+1", "L01",
		"L00", "L100", "L1.0", "L1a", "La", "O0", "O1", "T0", "T1", "O-1", "OT", "o", "t", "LO", "LL1", "L1\x00", "L\xff", "\xff1", "Ł1",
		"L1 " + strings.Repeat("1", 60000), "O " + strings.Repeat("O", 60000), strings.Repeat("x ", 11) + "x", "T ",
	} {
		l, e := impose.ParseFolds(s)
		want(t, "ParseFolds of "+strconv.Quote(s[:min(len(s), 20)]), l, e, nil, api.ErrSyntax)
	}
	for _, s := range []string{twelve + " L1", twelve + " ", strings.Repeat("x ", 12) + "x", strings.Repeat(" ", 12), strings.Repeat(" ", 100000)} {
		l, e := impose.ParseFolds(s)
		want(t, "ParseFolds of too many", l, e, nil, api.ErrLarge)
	}
}

// P6.6: the texts of schemes, and these read.
func TestPrint(t *testing.T) {
	for s, scheme := range map[string]api.ImposeScheme{
		"2 2\n7/0/8/0 6/0/5/0\n2/1/1/1 3/1/4/1\n": quarto(),
		"2 1\n3/0/4/0 2/0/1/0\n":                  pair(),
		"1 1\n1/0/2/0\n":                          strip(1, 1),
		"1 1\n2/1/1/0\n":                          schemeOf(1, 1, [4]int{2, 1, 1, 0}),
		"1 2\n1/0/2/0\n3/0/4/0\n":                 strip(1, 2),
		"3 1\n1/0/2/0 3/0/4/0 5/0/6/0\n":          strip(3, 1),
	} {
		text, e := impose.Print(scheme)
		want(t, "Print", text, e, s, api.OK)
		read, n, e := impose.Parse(s)
		want(t, "Parse", read, e, scheme, api.OK)
		want(t, "Parse, the line", n, e, 0, api.OK)
	}
	for _, c := range wrongSchemes() {
		text, e := impose.Print(c.s)
		want(t, "Print, "+c.what, text, e, "", c.e)
	}
}

// P6.6: what is wrong with the text of a scheme.
func TestWrongTexts(t *testing.T) {
	const right = "2 1\n3/0/4/0 2/0/1/0\n"
	for _, c := range []struct {
		s    string
		line int
		e    api.Errno
	}{
		{"", 1, api.ErrSyntax},
		{"\n", 1, api.ErrSyntax},
		{"2 1", 1, api.ErrSyntax},
		{"2\n", 1, api.ErrSyntax},
		{"2 1 \n", 1, api.ErrSyntax},
		{" 2 1\n", 1, api.ErrSyntax},
		{"2  1\n", 1, api.ErrSyntax},
		{"2 1 1\n", 1, api.ErrSyntax},
		{"2/1\n", 1, api.ErrSyntax},
		{"2 x\n", 1, api.ErrSyntax},
		{"02 1\n3/0/4/0 2/0/1/0\n", 1, api.ErrSyntax},
		{"+2 1\n", 1, api.ErrSyntax},
		{"2 -0\n", 1, api.ErrSyntax},
		{"2 10000\n", 1, api.ErrSyntax},
		{"-10000 1\n", 1, api.ErrSyntax},
		{"2 1\r\n3/0/4/0 2/0/1/0\r\n", 1, api.ErrSyntax},
		{"2 1\n3/0/4/0 2/0/1/0", 2, api.ErrSyntax},
		{"2 1\n3/0/4/0 2/0/1/0 \n", 2, api.ErrSyntax},
		{"2 1\n 3/0/4/0 2/0/1/0\n", 2, api.ErrSyntax},
		{"2 1\n3/0/4/0  2/0/1/0\n", 2, api.ErrSyntax},
		{"2 1\n\n", 2, api.ErrSyntax},
		{"2 1\n\n3/0/4/0 2/0/1/0\n", 2, api.ErrSyntax},
		{right + "\n", 3, api.ErrSyntax},
		{right + " \n", 3, api.ErrSyntax},
		{right + "2", 3, api.ErrSyntax},
		{"2 1\n3/0/4 2/0/1/0\n", 2, api.ErrSyntax},
		{"2 1\n3/0/4/0/ 2/0/1/0\n", 2, api.ErrSyntax},
		{"2 1\n3/0/4/0/0 2/0/1/0\n", 2, api.ErrSyntax},
		{"2 1\n3/0//0 2/0/1/0\n", 2, api.ErrSyntax},
		{"2 1\n3 0 4 0\n", 2, api.ErrSyntax},
		{"2 1\n3/0/4/0 2/0/1/x\n", 2, api.ErrSyntax},
		{"2 1\n3/0/4/0 2/0/01/0\n", 2, api.ErrSyntax},
		{"2 1\n3/0/4/0 2/0/1/-0\n", 2, api.ErrSyntax},
		{"2 1\n3/0/4/0 2/0/1/+0\n", 2, api.ErrSyntax},
		{"2 1\n30000/0/4/0 2/0/1/0\n", 2, api.ErrSyntax},
		{"2 1\n3/0/4/0 2/0/-10000/0\n", 2, api.ErrSyntax},
		{"1 2\n1/0/2/0\n3/0/4\n", 3, api.ErrSyntax},
		{"9 1\n1/0/2/0\n3/0/4\n", 3, api.ErrSyntax},
		{"2 2\n3/0/4/0 2/0/1/0\n", 0, api.ErrShape},
		{"2 0\n3/0/4/0 2/0/1/0\n", 0, api.ErrShape},
		{"2 1\n", 0, api.ErrShape},
		{"2 -1\n", 0, api.ErrShape},
		{"1 1\n3/0/4/0 2/0/1/0\n", 0, api.ErrShape},
		{"3 1\n3/0/4/0 2/0/1/0\n", 0, api.ErrShape},
		{"9999 1\n3/0/4/0 2/0/1/0\n", 0, api.ErrShape},
		{"0 1\n3/0/4/0\n", 0, api.ErrShape},
		{"-1 1\n3/0/4/0\n", 0, api.ErrShape},
		{"2 2\n3/0/4/0 2/0/1/0\n5/0/6/0\n", 0, api.ErrShape},
		{"2 2\n3/0/4/0 2/0/1/0 5/0/6/0\n7/0/8/0\n", 0, api.ErrShape},
		{"1 2\n3/0/4/0 2/0/1/0\n", 0, api.ErrShape},
		{"0 0\n", 0, api.ErrRange},
		{"2 0\n", 0, api.ErrRange},
		{"9 0\n", 0, api.ErrRange},
		{"1 9\n" + strings.Repeat("1/0/1/0\n", 9), 0, api.ErrRange},
		{"8 5\n" + strings.Repeat(strings.Repeat("1/0/1/0 ", 7)+"1/0/1/0\n", 5), 0, api.ErrLarge},
		{"2 1\n3/0/4/0 2/0/5/0\n", 0, api.ErrRange},
		{"2 1\n-1/0/4/0 2/0/1/0\n", 0, api.ErrRange},
		{"2 1\n3/0/4/0 2/0/-9999/0\n", 0, api.ErrRange},
		{"2 1\n3/2/4/0 2/0/1/0\n", 0, api.ErrRange},
		{"2 1\n3/0/4/9999 2/0/1/0\n", 0, api.ErrRange},
		{"2 1\n3/0/4/0 2/0/3/0\n", 0, api.ErrDouble},
		{"1 1\n1/0/1/0\n", 0, api.ErrDouble},
		{strings.Repeat("x", 60001), 0, api.ErrLarge},
		{strings.Repeat("x", 60000), 1, api.ErrSyntax},
		{"1 1\n" + strings.Repeat("1/0/2/0\n", 7499) + "\x00\x00\x00\n", 7501, api.ErrSyntax},
		{"1 1\n" + strings.Repeat("1/0/2/0\n", 7499), 0, api.ErrShape},
	} {
		s, n, e := impose.Parse(c.s)
		what := "Parse of " + strconv.Quote(c.s[:min(len(c.s), 40)])
		want(t, what, s, e, api.ImposeScheme{}, c.e)
		want(t, what+", the line", n, e, c.line, c.e)
	}
}

// P6.9: ParseFolds undoes FormatFolds of right folds, Parse undoes Print.
func TestTextsBack(t *testing.T) {
	m := newMaker(12)
	for range 1000 {
		sheet := m.sheet(32)
		l, s := m.folds(sheet), m.scheme(sheet)
		back, e := impose.ParseFolds(impose.FormatFolds(l))
		want(t, "ParseFolds of FormatFolds", back, e, l, api.OK)
		text, e := impose.Print(s)
		if e != api.OK {
			t.Fatalf("Print of %v: error %d", s, e)
		}
		read, n, e := impose.Parse(text)
		want(t, "Parse of Print", read, e, s, api.OK)
		want(t, "Parse of Print, the line", n, e, 0, api.OK)
	}
}
