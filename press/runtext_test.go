package press_test

import (
	"strings"
	"testing"

	"tympan/api"
	"tympan/press"
)

const posterText = "poster 3 100 110 30 600 red blue"

// P9.1: texts of runs, right ones and others.
func TestFormatRun(t *testing.T) {
	for _, c := range []struct {
		x    api.PressRun
		text string
	}{
		{poster(), posterText},
		{api.PressRun{}, " 0 0 0 0 0"},
		{api.PressRun{Job: "a b\n", Day: -1, Wanted: great, Given: small, Ready: -30, Hour: 12345678, Colours: []string{"", "x y", "\xff"}}, "a b\n -1 9223372036854775807 -9223372036854775808 -30 12345678  x y \xff"},
		{changed(poster(), func(x *api.PressRun) { x.Colours = nil }), "poster 3 100 110 30 600"},
		{changed(poster(), func(x *api.PressRun) { x.Colours = []string{""} }), "poster 3 100 110 30 600 "},
	} {
		want(t, "FormatRun", press.FormatRun(c.x), api.OK, c.text, api.OK)
	}
}

// P9.1: the run with a text.
func TestParseRun(t *testing.T) {
	for s, wanted := range map[string]api.PressRun{
		posterText:      poster(),
		"p 0 1 1 0 1 p": {Job: "p", Wanted: 1, Given: 1, Colours: []string{"p"}, Hour: 1},
		"Abcdefghi-09 100000 2000 2000 10000 10000 a b c d e f": {Job: "Abcdefghi-09", Day: 100000, Wanted: 2000, Given: 2000, Colours: strings.Split("abcdef", ""), Ready: 10000, Hour: 10000},
	} {
		x, e := press.ParseRun(s)
		want(t, "ParseRun of "+s, x, e, wanted, api.OK)
	}
}

// P9.1: texts that are none of a run, and those of wrong runs.
func TestWrongTextsOfRuns(t *testing.T) {
	for e, list := range map[api.Errno][]string{
		api.ErrSyntax: {
			"", " ", "poster", "poster 3 100 110 30", "poster 3 100 110 30 ", "poster  3 100 110 30 600 red", " poster 3 100 110 30 600 red", "poster 3  100 110 30 600 red",
			"poster a 100 110 30 600 red", "poster 3 b 110 30 600 red", "poster 3 100 c 30 600 red", "poster 3 100 110 d 600 red", "poster 3 100 110 30 e red", "poster 3 100 110 30 red blue",
			"poster 03 100 110 30 600 red", "poster +3 100 110 30 600 red", "poster -0 100 110 30 600 red", "poster 3 100 110 00 600 red", "poster 3 100 110 30 600\n red",
			"poster 10000000 100 110 30 600 red", "poster -10000000 100 110 30 600 red", "poster 3 100 110 30 99999999999999999999 red", "poster 3 100 110 30 12345678 red",
			"poster 3 1e2 110 30 600 red", "poster 3 0x64 110 30 600 red", "poster 3 1_0 110 30 600 red", "poster 3 100 110.0 30 600 red", "poster - 100 110 30 600 red", "poster --3 100 110 30 600 red",
			"poster\t3 100 110 30 600 red", "3 100 110 30 600 red blue", " 0 0 0 0", "     ", strings.Repeat(" ", 100000),
			"1 a 0 0 0 0", "poster 3 100 110 30 600a 1 1 1 1 1 1 1 1",
		},
		api.ErrName: {
			" 3 100 110 30 600 red", " -1 0 0 0 0", "1 3 100 110 30 600 red", "po.ster 3 100 110 30 600 red", "\n 3 100 110 30 600 red", "\xff\x00 3 100 110 30 600 red",
			strings.Repeat("p", 100000) + " 3 100 110 30 600 red", "poster 3 100 110 30 600 ", "poster 3 100 110 30 600 red ", "poster 3 100 110 30 600  red", "poster 3 100 110 30 600 red blue\n",
			"poster 3 100 110 30 600 1 red", "poster 3 100 110 30 600 " + strings.Repeat("p", 100000), "poster 3 100 110 9999999 0 a b c d e \x00",
		},
		api.ErrRange: {
			"poster -1 100 110 30 600 red", "poster 9999999 100 110 30 600 red", "poster -9999999 100 110 30 600 red", "poster 3 0 110 30 600 red", "poster 3 100 99 30 600 red",
			"poster 3 100 110 -1 600 red", "poster 3 100 110 30 0 red", "poster 3 100 110 30 -600 red", "poster -1 100 110 30 600", "poster -1 100 110 30 600 1 1 1 1 1 1 1 1 1",
		},
		api.ErrShape: {"poster 3 100 110 30 600", "poster 3 100 110 30 0"},
		api.ErrLarge: {
			"poster 3 100 110 30 600 a b c d e f g", "poster 3 100 110 30 600 a b c d e f ", "poster 3 100 110 30 600 a b c d e f g h i", "poster 3 100 110 30 600 a a a a a a a",
			"poster 3 100 110 30 600" + strings.Repeat(" ", 100000), "poster 3 100 110 30 0" + strings.Repeat(" \n", 7),
		},
		api.ErrExists: {"poster 3 100 110 30 600 red red", "poster 3 100 110 30 600 a b c d e a", "poster 3 100 110 30 0 a a 1"},
	} {
		for _, s := range list {
			x, got := press.ParseRun(s)
			want(t, "ParseRun of "+s[:min(len(s), 60)], x, got, api.PressRun{}, e)
		}
	}
	for _, w := range wrongRuns() {
		if w.x.Job == "a b" || w.x.Given == great {
			continue
		}
		x, e := press.ParseRun(press.FormatRun(w.x))
		want(t, "ParseRun, "+w.what, x, e, api.PressRun{}, w.e)
	}
}

// P9.10: ParseRun undoes FormatRun.
func TestRunsBack(t *testing.T) {
	for _, x := range rightRuns() {
		back, e := press.ParseRun(press.FormatRun(x))
		want(t, "ParseRun of FormatRun", back, e, x, api.OK)
	}
	m := newMaker(3)
	for range 2000 {
		x := m.run()
		back, e := press.ParseRun(press.FormatRun(x))
		want(t, "ParseRun of FormatRun", back, e, x, api.OK)
	}
}
