package proof_test

import (
	"strings"
	"testing"

	"tympan/api"
	"tympan/proof"
)

// P8.1, P8.10: the texts of marks, and these read.
func TestTextsOfMarks(t *testing.T) {
	for s, m := range rightMarks() {
		want(t, "FormatMark", proof.FormatMark(m), api.OK, s, api.OK)
		back, e := proof.ParseMark(s)
		want(t, "ParseMark of "+s, back, e, m, api.OK)
	}
}

// P8.1: a mark has a text, whatever it is.
func TestTextsOfWrongMarks(t *testing.T) {
	for _, c := range []struct {
		m    api.ProofMark
		text string
	}{
		{api.ProofMark{}, ""},
		{api.ProofMark{Mark: 8, Old: "a", Kind: 1}, ""},
		{api.ProofMark{Mark: -1, Part: 1}, ""},
		{api.ProofMark{Mark: great}, ""},
		{api.ProofMark{Mark: api.MarkOut, Part: -5, Word: 1000}, "out -5 1000 "},
		{api.ProofMark{Mark: api.MarkOut, Old: "a b\n", New: "c", Was: 1, Kind: 2}, "out 0 0 a b\n"},
		{api.ProofMark{Mark: api.MarkIn, Old: "a", New: "\xff"}, "in 0 0 \xff"},
		{api.ProofMark{Mark: api.MarkChange, Old: "a", New: "a"}, "change 0 0 a a"},
		{api.ProofMark{Mark: api.MarkChange}, "change 0 0  "},
		{api.ProofMark{Mark: api.MarkSwap, Part: 61, Word: 101, Old: "a", Kind: 3}, "swap 61 101"},
		{api.ProofMark{Mark: api.MarkBreak, New: "a"}, "break 0 0 0"},
		{api.ProofMark{Mark: api.MarkJoin, Part: great, Word: small, Was: 1, Kind: -4}, "join 9223372036854775807 -9223372036854775808 -4"},
		{api.ProofMark{Mark: api.MarkTurn, Part: 1, Word: 2, Was: 3, Kind: 3}, "turn 1 3 3"},
	} {
		want(t, "FormatMark", proof.FormatMark(c.m), api.OK, c.text, api.OK)
	}
}

// wrongText is the text of a mark with its error.
type wrongText struct {
	text string
	e    api.Errno
}

// wrongForms is texts that are none of a mark.
func wrongForms() []wrongText {
	var wrong []wrongText
	for _, s := range []string{
		"", " ", "out", "out ", "out 0", "out 0 0", "out 0 0 a b", "out 0 0 a ", " out 0 0 a", "out  0 0 a", "out 0  0 a", "Out 0 0 a", "outs 0 0 a", "ou 0 0 a", "1 0 0 a",
		"out a 0 a", "out 0 a a", "out 00 0 a", "out 0 01 a", "out -0 0 a", "out 0 -0 a", "out +1 0 a", "out 0 +1 a", "out 0 1.0 a", "out 0 0x1 a", "out 0 1_0 a", "out 0 - a",
		"out 0 --1 a", "out  0 a", "out 0  a", "out 12345678 0 a", "out 0 -12345678 a", "out 0 99999999999999999999 a", "out 0 0 a\n", "out 0 0 \n", "\nout 0 0 a", "out 0 0\na", "out 0 0\n a", "out\t0 0 a",
		"in 0 0", "in 0 0 a b", "in 0 a", "in a 0 0", "change 0 0 a", "change 0 0 a b c", "change 0 0 a b\n", "change 0 a b", "swap 0", "swap 0 0 ", "swap 0 0 1", "swap 0 0 a", "swap",
		"break 0 1", "break 0 1 1 1", "break 0 1 a", "break 0 1 ", "break 0 1 01", "break 0 1 12345678", "join 0 1", "join 0 1 1 1", "join 0 1 b", "join 0 1 1 ", "join 1 1 -0",
		"turn 0 1", "turn 0 0 1 2", "turn 0 1 a", "turn 0 a 1", "turn 0 1 ", "turn 0 1 2 ", "turn 0 01 2", "stet 0 0", "turned 0 1 2",
	} {
		wrong = append(wrong, wrongText{s, api.ErrSyntax})
	}
	return wrong
}

// textsOfWrong is texts of marks that are wrong.
func textsOfWrong() []wrongText {
	return []wrongText{
		{"out 60 0 a", api.ErrRange}, {"out -1 0 a", api.ErrRange}, {"out 0 101 a", api.ErrRange}, {"in 0 -1 a", api.ErrRange}, {"in 9999999 0 ", api.ErrRange},
		{"change 0 -9999999 a a", api.ErrRange}, {"swap 60 101", api.ErrRange}, {"break 60 0 0", api.ErrRange}, {"join -1 1 1", api.ErrRange}, {"turn 60 1 1", api.ErrRange},
		{"out 0 0 ", api.ErrForm}, {"in 0 0 ", api.ErrForm}, {"out 0 0 \xff", api.ErrForm}, {"in 0 0 a\r", api.ErrForm}, {"in 0 0 a\tb\x00", api.ErrForm}, {"in 0 0 " + strings.Repeat("x", 31), api.ErrForm},
		{"change 0 0 a a", api.ErrForm}, {"change 0 0  a", api.ErrForm}, {"change 0 0 a ", api.ErrForm}, {"change 0 0  ", api.ErrForm},
		{"break 0 0 1", api.ErrForm}, {"break 0 1 0", api.ErrForm}, {"break 0 1 4", api.ErrForm}, {"break 0 1 -1", api.ErrForm}, {"join 0 0 1", api.ErrForm}, {"join 0 1 9999999", api.ErrForm},
		{"turn 0 1 1", api.ErrForm}, {"turn 0 0 1", api.ErrForm}, {"turn 0 1 4", api.ErrForm}, {"turn 0 -1 2", api.ErrForm},
	}
}

// P8.1: texts that are not those of a mark, alone and as lines.
func TestWrongTextsOfMarks(t *testing.T) {
	for _, w := range append(wrongForms(), textsOfWrong()...) {
		m, e := proof.ParseMark(w.text)
		want(t, "ParseMark of "+w.text, m, e, api.ProofMark{}, w.e)
		if !strings.Contains(w.text, "\n") {
			checkWrongLine(t, w.text+"\n", 1, w.e)
			checkWrongLine(t, strings.Repeat("swap 0 0\n", 100)+w.text+"\nx\n", 101, w.e)
			if w.text != "" {
				checkWrongLine(t, "in 0 0 a\n"+w.text, 2, api.ErrSyntax)
			}
		}
	}
	m, e := proof.ParseMark("in 0 0 " + strings.Repeat("x", 100000))
	want(t, "ParseMark of a long word", m, e, api.ProofMark{}, api.ErrForm)
	m, e = proof.ParseMark(strings.Repeat(" ", 100000))
	want(t, "ParseMark of blanks", m, e, api.ProofMark{}, api.ErrSyntax)
}

func checkWrongLine(t *testing.T, s string, line int, wanted api.Errno) {
	t.Helper()
	l, n, e := proof.Parse(s)
	what := "Parse of " + s[max(0, len(s)-60):]
	want(t, what, l, e, nil, wanted)
	want(t, what+", the line", n, e, line, wanted)
}

// P8.1: texts of several marks.
func TestTextsOfLists(t *testing.T) {
	sixty := strings.Repeat("swap 0 0\n", 60)
	for _, s := range []string{"", "swap 0 0\n", "out 0 0 a\nin 1 2 b\nturn 0 1 2\n", sixty} {
		l, n, e := proof.Parse(s)
		want(t, "Parse", len(l), e, strings.Count(s, "\n"), api.OK)
		want(t, "Parse, the line", n, e, 0, api.OK)
		back, e := proof.Print(l)
		want(t, "Print", back, e, s, api.OK)
	}
	checkWrongLine(t, "\n", 1, api.ErrSyntax)
	checkWrongLine(t, "swap 0 0", 1, api.ErrSyntax)
	checkWrongLine(t, "swap 0 0\n\n", 2, api.ErrSyntax)
	checkWrongLine(t, "swap 0 0\r\n", 1, api.ErrSyntax)
	checkWrongLine(t, "swap 0 0\nswap 0 0", 2, api.ErrSyntax)
	checkWrongLine(t, sixty+"swap 0 0\n", 0, api.ErrLarge)
	checkWrongLine(t, sixty+"swap 0 0", 61, api.ErrSyntax)
	checkWrongLine(t, sixty+sixty+"swap 60 0\n", 121, api.ErrRange)
	checkWrongLine(t, strings.Repeat("x", 60001), 0, api.ErrLarge)
	checkWrongLine(t, strings.Repeat("x", 60000), 1, api.ErrSyntax)
	checkWrongLine(t, strings.Repeat("\n", 60001), 0, api.ErrLarge)
	long := "in 0 0 " + strings.Repeat("x", 60000-len("in 0 0 \n")) + "\n"
	checkWrongLine(t, long, 1, api.ErrForm)
	checkWrongLine(t, long+"\n", 0, api.ErrLarge)
}

// P8.10: texts of made marks, alone and together.
func TestTextsBack(t *testing.T) {
	m := newMaker(5)
	for range 500 {
		l := m.proofOf(m.copy(4, 26), m.Intn(20), 26)
		for _, x := range l {
			back, e := proof.ParseMark(proof.FormatMark(x))
			want(t, "ParseMark of FormatMark", back, e, x, api.OK)
		}
		s, e := proof.Print(l)
		want(t, "Print", s, e, strings.Join(append(texts(l), ""), "\n"), api.OK)
		back, n, e := proof.Parse(s)
		want(t, "Parse of Print", back, e, l, api.OK)
		want(t, "Parse of Print, the line", n, e, 0, api.OK)
	}
}
