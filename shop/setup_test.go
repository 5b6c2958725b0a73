package shop_test

import (
	"fmt"
	"slices"
	"testing"

	"tympan/api"
	"tympan/shop"
)

// wrongSetup is a setup with its error.
type wrongSetup struct {
	what string
	s    api.ShopSetup
	e    api.Errno
}

func wrongSetups() []wrongSetup {
	type setup = *api.ShopSetup
	with := func(what string, e api.Errno, change func(s setup)) wrongSetup {
		s := example()
		change(&s)
		return wrongSetup{what, s, e}
	}
	return []wrongSetup{
		{"nothing", api.ShopSetup{}, api.ErrName},
		with("a fount without a name", api.ErrName, func(s setup) { s.Fount.Name = "" }),
		with("a fount without sorts", api.ErrShape, func(s setup) { s.Fount.Sorts = nil }),
		with("two sorts of one name", api.ErrExists, func(s setup) { s.Fount.Sorts[1].Name = "a" }),
		with("a pattern that is none", api.ErrForm, func(s setup) { s.Text.Patterns = []string{"1"} }),
		with("many patterns", api.ErrLarge, func(s setup) { s.Text.Patterns = repeated("a", 61) }),
		with("an exception twice", api.ErrExists, func(s setup) { s.Text.Exceptions = []string{"a-b", "ab"} }),
		with("nothing ahead of a hyphen", api.ErrRange, func(s setup) { s.Text.Left = 0 }),
		with("no measure", api.ErrRange, func(s setup) { s.Paragraph.Measure = 0 }),
		with("a gap that is no space", api.ErrKind, func(s setup) { s.Paragraph.Gap = 0 }),
		with("a hyphen that is a space", api.ErrKind, func(s setup) { s.Paragraph.Hyphen = 3 }),
		with("no hyphen", api.ErrMissing, func(s setup) { s.Paragraph.Hyphen = 6 }),
		with("a hyphen of another letter", api.ErrClash, func(s setup) { s.Paragraph.Hyphen = 0 }),
		with("a hyphen that prints more", api.ErrClash, func(s setup) {
			s.Fount.Sorts = append(s.Fount.Sorts, ligature("--", 100))
			s.Fount.Sorts[6].Name = "dash"
			s.Paragraph.Hyphen = 6
		}),
		with("metal below 0", api.ErrRange, func(s setup) { s.Metal = -1 }),
		with("much metal", api.ErrRange, func(s setup) { s.Metal = 1000000000000001 }),
		with("the fount, then the text", api.ErrRange, func(s setup) { s.Fount.Body, s.Text.Patterns = 0, []string{"1"} }),
		with("the text, then the paragraph", api.ErrForm, func(s setup) { s.Text.Bars, s.Paragraph.Measure = []string{"a"}, 0 }),
		with("the paragraph, then the hyphen", api.ErrOrder, func(s setup) { s.Paragraph.Least, s.Paragraph.Hyphen = 401, 0 }),
		with("the hyphen, then the metal", api.ErrClash, func(s setup) { s.Paragraph.Hyphen, s.Metal = 0, -1 }),
	}
}

// P10.1: right shops and wrong ones.
func TestCheckSetup(t *testing.T) {
	for _, s := range []api.ShopSetup{example(), plain(), rich()} {
		for _, metal := range []int{0, 1, 1000000000000000} {
			s.Metal = metal
			wantError(t, "CheckSetup of "+s.Fount.Name, shop.CheckSetup(s), api.OK)
		}
	}
	for _, w := range wrongSetups() {
		wantError(t, "CheckSetup, "+w.what, shop.CheckSetup(w.s), w.e)
	}
}

// P10.1 to P10.8: all functions with a shop return its error first, and nothing beside it.
func TestErrorsOfShops(t *testing.T) {
	for _, w := range wrongSetups() {
		for _, x := range []arguments{{s: w.s}, changed(wrongArguments(), func(x *arguments) { x.s = w.s })} {
			for _, c := range calls() {
				r, e := c.do(x)
				wantError(t, c.name+", "+w.what, e, w.e)
				if !isZero(r) {
					t.Errorf("%s, %s: %v", c.name, w.what, r)
				}
			}
			log, written := shop.Do(w.s, x.log, x.line)
			want(t, "the log of Do, "+w.what, log, api.OK, nil, api.OK)
			want(t, "Do, "+w.what, written, api.OK, fmt.Sprint("error ", int(w.e)), api.OK)
		}
		d, e := shop.New(w.s)
		wantError(t, "New, "+w.what, e, w.e)
		if d != nil {
			t.Errorf("New, %s: a desk", w.what)
		}
	}
}

// wrongLog is a log of the plain shop with its error, and how many entries there are before the wrong
// one.
type wrongLog struct {
	log    []string
	before int
	e      api.Errno
}

func wrongLogs() []wrongLog {
	with := func(e api.Errno, more ...string) wrongLog {
		return wrongLog{slices.Concat(readingLog(), more), len(readingLog()), e}
	}
	return []wrongLog{
		{[]string{""}, 0, api.ErrSyntax},
		{[]string{"cast a 1", "set p a", "melt a 1"}, 1, api.ErrNone},
		{[]string{"cast a 1", "cast a 1", "unlock f", "cast "}, 2, api.ErrMissing},
		{repeated("cast a 1", 61), 0, api.ErrLarge},
		{repeated("", 61), 0, api.ErrLarge},
		with(api.ErrExists, "set r a"),
		with(api.ErrBusy, "distribute q", "distribute q"),
		with(api.ErrKind, "mend p"),
		with(api.ErrLarge, "set s "+letters(295)),
	}
}

// P10.2: the error of a log, with the number of entries before the one that is refused; all functions
// with a shop and a log return it behind that of the shop, and nothing beside it.
func TestErrorsOfLogs(t *testing.T) {
	for _, w := range wrongLogs() {
		state, number, e := shop.StateOf(plain(), w.log)
		want(t, fmt.Sprintf("the number of StateOf %q", w.log), number, e, w.before, w.e)
		want(t, fmt.Sprintf("StateOf %q", w.log), state, e, api.ShopState{}, w.e)
		for _, x := range []arguments{{}, wrongArguments(), rightArguments()} {
			x.s, x.log = plain(), w.log
			for _, c := range calls() {
				r, e := c.do(x)
				wantError(t, fmt.Sprintf("%s of %q", c.name, w.log), e, w.e)
				if c.name != "StateOf" && !isZero(r) {
					t.Errorf("%s of %q: %v", c.name, w.log, r)
				}
			}
			log, written := shop.Do(x.s, x.log, x.line)
			want(t, "the log of Do", log, api.OK, nil, api.OK)
			want(t, "Do", written, api.OK, fmt.Sprint("error ", int(w.e)), api.OK)
		}
	}
}

// P10.2: a log has at most 60 entries.
func TestFullLogs(t *testing.T) {
	full := repeated("cast a 1", 60)
	want(t, "StateOf a full log", stateOf(t, plain(), full).Case, api.OK, counts(plainA, 60), api.OK)
	longer, e := shop.Accept(plain(), full[1:], "cast a 1")
	want(t, "Accept of the last entry", longer, e, full, api.OK)
	for _, entry := range []string{"cast a 1", "", "mend p", "unlock f", letters(301)} {
		longer, e = shop.Accept(plain(), full, entry)
		want(t, "Accept behind a full log", longer, e, nil, api.ErrFull)
	}
	for _, w := range wrongLogs() {
		if len(w.log) > 60 {
			continue
		}
		longer, e = shop.Accept(plain(), append(repeated("cast a 1", 60-len(w.log)), w.log...), "cast a 1")
		want(t, "Accept behind a full log that is wrong", longer, e, nil, w.e)
	}
}
