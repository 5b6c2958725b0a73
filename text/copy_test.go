package text_test

import (
	"fmt"
	"slices"
	"strings"
	"testing"

	"tympan/api"
	"tympan/text"
)

func part(kind int, words ...string) api.CopyPart {
	return api.CopyPart{Kind: kind, Words: words}
}

// P2.2: what is a copy.
func TestCheckParts(t *testing.T) {
	body, most := part(api.CopyBody, "a"), slices.Repeat([]string{strings.Repeat("~", 30)}, 100)
	for _, l := range [][]api.CopyPart{
		nil, {}, {body},
		{part(api.CopyHeading, "a", "#", "^", "!"), part(api.CopyNote, "#5", "#"), part(api.CopyBody, "^^", "^")},
		slices.Repeat([]api.CopyPart{part(api.CopyNote, most...)}, 60),
	} {
		n, e := text.CheckParts(l)
		wantNumber(t, fmt.Sprint("CheckParts ", l), n, e, 0, api.OK)
	}
	for _, c := range []struct {
		parts  []api.CopyPart
		number int
		e      api.Errno
	}{
		{append(slices.Repeat([]api.CopyPart{body}, 60), part(0)), 0, api.ErrLarge},
		{append([]api.CopyPart{{}}, slices.Repeat([]api.CopyPart{body}, 60)...), 0, api.ErrLarge},
		{append(slices.Repeat([]api.CopyPart{body}, 59), part(api.CopyBody)), 59, api.ErrShape},
		{[]api.CopyPart{part(0)}, 0, api.ErrKind},
		{[]api.CopyPart{body, part(4, "a")}, 1, api.ErrKind},
		{[]api.CopyPart{body, part(-1, most...)}, 1, api.ErrKind},
		{[]api.CopyPart{body, part(api.CopyNote)}, 1, api.ErrShape},
		{[]api.CopyPart{body, part(api.CopyNote, append(most, "")...)}, 1, api.ErrLarge},
		{[]api.CopyPart{body, part(api.CopyNote, append([]string{"#"}, most...)...)}, 1, api.ErrLarge},
		{[]api.CopyPart{body, part(api.CopyBody, "#")}, 1, api.ErrForm},
		{[]api.CopyPart{body, part(api.CopyHeading, "#", "a")}, 1, api.ErrForm},
		{[]api.CopyPart{body, part(api.CopyNote, "^", "a")}, 1, api.ErrForm},
		{[]api.CopyPart{body, part(api.CopyBody, append(most[1:], "")...), part(0)}, 1, api.ErrForm},
		{[]api.CopyPart{part(api.CopyBody, "^"), part(0)}, 0, api.ErrForm},
	} {
		n, e := text.CheckParts(c.parts)
		wantNumber(t, fmt.Sprint("CheckParts ", c.parts), n, e, c.number, c.e)
		if s, e := text.Print(c.parts); s != "" || e != c.e {
			t.Errorf("Print %v: %q, error %d, want %d", c.parts, s, e, c.e)
		}
		if l, e := text.Needs(office(), plain(), c.parts); len(l) != 0 || e != c.e {
			t.Errorf("Needs of %v: %v, error %d, want %d", c.parts, l, e, c.e)
		}
	}
	for _, word := range wrongWords() {
		n, e := text.CheckParts([]api.CopyPart{body, part(api.CopyBody, "a", word)})
		wantNumber(t, fmt.Sprintf("CheckParts with %q", word), n, e, 1, api.ErrForm)
	}
}

// P2.2: the text of a copy.
func TestPrint(t *testing.T) {
	for _, c := range []struct {
		parts []api.CopyPart
		text  string
	}{
		{nil, ""},
		{[]api.CopyPart{part(api.CopyBody, "a")}, "a\n"},
		{[]api.CopyPart{part(api.CopyHeading, "A", "title")}, "# A title\n"},
		{[]api.CopyPart{part(api.CopyNote, "x", "^", "#")}, "^ x ^ #\n"},
		{[]api.CopyPart{part(api.CopyHeading, "A", "title"), part(api.CopyBody, "One", "two", "#"), part(api.CopyBody, "#5"), part(api.CopyNote, "x")}, "# A title\n\nOne two #\n\n#5\n\n^ x\n"},
	} {
		if s, e := text.Print(c.parts); s != c.text || e != api.OK {
			t.Errorf("Print %v: %q, error %d", c.parts, s, e)
		}
		if l, m, e := text.Parse(c.text); !alikeParts(l, c.parts) || m != (api.TextMark{}) || e != api.OK {
			t.Errorf("Parse %q: %v, %v, error %d", c.text, l, m, e)
		}
	}
}

// P2.2: texts that are written otherwise than Print writes them.
func TestParse(t *testing.T) {
	heading := part(api.CopyHeading, "A", "title")
	for _, c := range []struct {
		text  string
		parts []api.CopyPart
	}{
		{"\n\n  \n", nil},
		{"   ", nil},
		{"a", []api.CopyPart{part(api.CopyBody, "a")}},
		{"\n \n  a  \n\n   \n\n", []api.CopyPart{part(api.CopyBody, "a")}},
		{"# A title\n\nOne two\nthree\n^ x\n", []api.CopyPart{heading, part(api.CopyBody, "One", "two", "three", "^", "x")}},
		{"# A title\n\nOne two\nthree\n\n^ x\n", []api.CopyPart{heading, part(api.CopyBody, "One", "two", "three"), part(api.CopyNote, "x")}},
		{"  #\nA\n  title\n \n ^   x", []api.CopyPart{heading, part(api.CopyNote, "x")}},
		{"# A title #\n^\n#", []api.CopyPart{part(api.CopyHeading, "A", "title", "#", "^", "#")}},
		{"#5 #\n\n^^ ^", []api.CopyPart{part(api.CopyBody, "#5", "#"), part(api.CopyBody, "^^", "^")}},
		{"# ## ^\n\n^ #^", []api.CopyPart{part(api.CopyHeading, "##", "^"), part(api.CopyNote, "#^")}},
		{"! ~\n" + strings.Repeat("~", 30), []api.CopyPart{part(api.CopyBody, "!", "~", strings.Repeat("~", 30))}},
	} {
		if l, m, e := text.Parse(c.text); !alikeParts(l, c.parts) || m != (api.TextMark{}) || e != api.OK {
			t.Errorf("Parse %q: %v, %v, error %d", c.text, l, m, e)
		}
	}
}

// P2.2: each error, with its mark.
func TestParseErrors(t *testing.T) {
	long, hundred, sixty := strings.Repeat("x", 31), strings.Repeat("a ", 100), strings.Repeat("a\n\n", 60)
	for _, c := range []struct {
		text         string
		line, column int
		e            api.Errno
	}{
		// Bytes that no copy has, ahead of all other errors.
		{"a\tb", 1, 2, api.ErrForm},
		{"\t", 1, 1, api.ErrForm},
		{"a\r\n", 1, 2, api.ErrForm},
		{"\n\n a \x7f", 3, 4, api.ErrForm},
		{"a\x00", 1, 2, api.ErrForm},
		{"a \xc3\xa9", 1, 3, api.ErrForm},
		{"\x1f", 1, 1, api.ErrForm},
		{"#\n\n" + long + "\n\t", 4, 1, api.ErrForm},
		{sixty + "a\n\t\t", 122, 1, api.ErrForm},
		// Words that are too long.
		{long, 1, 1, api.ErrForm},
		{"a\n  " + long + " b", 2, 3, api.ErrForm},
		{"# " + long, 1, 3, api.ErrForm},
		{"\n" + strings.Repeat("#", 31), 2, 1, api.ErrForm},
		// A mark behind a mark.
		{"# #", 1, 3, api.ErrForm},
		{"^\n ^ a", 2, 2, api.ErrForm},
		{"# ^ \t", 1, 5, api.ErrForm},
		{"a\n\n# ^ a", 3, 3, api.ErrForm},
		// Marks without words.
		{"#", 1, 1, api.ErrMissing},
		{"#\n\na\n", 1, 1, api.ErrMissing},
		{"a\n\n  ^  \n", 3, 3, api.ErrMissing},
		{"a\n\n^\n \nb", 3, 1, api.ErrMissing},
		{"#\n\n" + long, 1, 1, api.ErrMissing},
		{"#\n\n# #", 1, 1, api.ErrMissing},
		// Too many words of a part.
		{hundred + "b", 1, 201, api.ErrLarge},
		{"# " + hundred + " b", 1, 204, api.ErrLarge},
		{"^\n" + hundred + "\n#", 3, 1, api.ErrLarge},
		{hundred + long, 1, 201, api.ErrForm},
		// Too many parts.
		{sixty + "b", 121, 1, api.ErrLarge},
		{sixty + " " + long, 121, 2, api.ErrLarge},
		{sixty + "#", 121, 1, api.ErrLarge},
		{strings.Repeat("a\n\n", 59) + "#\n\nb", 119, 1, api.ErrMissing},
		// Of several errors the first one.
		{"# #\n\n" + long, 1, 3, api.ErrForm},
		{long + " " + long, 1, 1, api.ErrForm},
		// Too many bytes.
		{strings.Repeat("\n", 60001), 0, 0, api.ErrLarge},
		{strings.Repeat("\t", 60001), 0, 0, api.ErrLarge},
		{strings.Repeat("\n", 59999) + "#", 60000, 1, api.ErrMissing},
	} {
		l, m, e := text.Parse(c.text)
		if len(l) != 0 || m != (api.TextMark{Line: c.line, Column: c.column}) || e != c.e {
			t.Errorf("Parse %q: %v, %v, error %d, want {%d %d}, error %d", c.text[:min(len(c.text), 80)], l, m, e, c.line, c.column, c.e)
		}
	}
}

// P2.2: as many words, parts and bytes as may be.
func TestParseLimits(t *testing.T) {
	words := slices.Repeat([]string{"a"}, 100)
	for _, c := range []struct {
		text  string
		parts []api.CopyPart
	}{
		{"^ " + strings.Repeat("a ", 100), []api.CopyPart{part(api.CopyNote, words...)}},
		{strings.Repeat("a\n", 100), []api.CopyPart{part(api.CopyBody, words...)}},
		{strings.Repeat("# a\n\n", 60) + "\n\n", slices.Repeat([]api.CopyPart{part(api.CopyHeading, "a")}, 60)},
		{strings.Repeat("\n", 59999) + "a", []api.CopyPart{part(api.CopyBody, "a")}},
	} {
		if l, m, e := text.Parse(c.text); !alikeParts(l, c.parts) || m != (api.TextMark{}) || e != api.OK {
			t.Errorf("Parse %q: %v, %v, error %d", c.text[:80], l, m, e)
		}
	}
}
