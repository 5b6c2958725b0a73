package text_test

import (
	"fmt"
	"reflect"
	"slices"
	"testing"

	"tympan/api"
	"tympan/text"
)

// P2.4: words with the places at which they may be divided.
func TestWords(t *testing.T) {
	r := examples("ef-fie", "shelf-ful", "e-e-e-e", "l-ffi-e", "if-fi", "h-fi-ffi-i", "u-u")
	got, e := text.Words(office(), r, []string{"effie", "shelfful", "eeee", "lffie", "iffi", "hfiffii", "uu", "ffi"})
	want := []api.ParagraphWord{
		{Sorts: []int{0, 10, 0}},
		{Sorts: []int{5, 6, 0, 3, 1, 1, 4, 3}, Breaks: []int{5}},
		{Sorts: []int{0, 0, 0, 0}, Breaks: []int{2}},
		{Sorts: []int{3, 10, 0}},
		{Sorts: []int{2, 10}},
		{Sorts: []int{6, 9, 10, 2}, Breaks: []int{2}},
		{Sorts: []int{4, 4}},
		{Sorts: []int{10}},
	}
	if e != api.OK || fmt.Sprint(got) != fmt.Sprint(want) {
		t.Errorf("Words: %v, error %d, want %v", got, e, want)
	}
	r.Left, r.Right = 1, 1
	got, e = text.Words(office(), r, []string{"eeee", "lffie", "uu", "EE"}[:3])
	want = []api.ParagraphWord{{Sorts: []int{0, 0, 0, 0}, Breaks: []int{1, 2, 3}}, {Sorts: []int{3, 10, 0}, Breaks: []int{1, 2}}, {Sorts: []int{4, 4}, Breaks: []int{1}}}
	if e != api.OK || fmt.Sprint(got) != fmt.Sprint(want) {
		t.Errorf("Words divided anywhere: %v, error %d, want %v", got, e, want)
	}
	// By patterns, without regard to small letters.
	got, e = text.Words(fountOf("T", "a", "b", "L", "e", "Le"), examples(), []string{"TabLe"})
	want = []api.ParagraphWord{{Sorts: []int{0, 1, 2, 5}, Breaks: []int{3}}}
	if e != api.OK || fmt.Sprint(got) != fmt.Sprint(want) {
		t.Errorf("Words by patterns: %v, error %d, want %v", got, e, want)
	}
}

func TestWordsErrors(t *testing.T) {
	hundred := slices.Repeat([]string{"effi"}, 100)
	if l, e := text.Words(office(), examples(), hundred); len(l) != 100 || e != api.OK {
		t.Errorf("100 words: %d, error %d", len(l), e)
	}
	if l, e := text.Words(office(), examples(), nil); len(l) != 0 || e != api.OK {
		t.Errorf("no words: %v, error %d", l, e)
	}
	for _, c := range []struct {
		words []string
		e     api.Errno
	}{
		{append([]string{""}, hundred...), api.ErrLarge},
		{[]string{"effi", "", "a"}, api.ErrForm},
		{[]string{"effi", "a", ""}, api.ErrMissing},
		{[]string{"effi", "ea"}, api.ErrMissing},
		{append(hundred[1:], "e f"), api.ErrForm},
	} {
		if l, e := text.Words(office(), examples(), c.words); len(l) != 0 || e != c.e {
			t.Errorf("Words of %q: %v, error %d, want %d", c.words, l, e, c.e)
		}
	}
	for _, word := range wrongWords() {
		if l, e := text.Words(office(), examples(), []string{word}); len(l) != 0 || e != api.ErrForm {
			t.Errorf("Words of %q: %v, error %d", word, l, e)
		}
	}
}

// P2.4: what a copy needs.
func TestNeeds(t *testing.T) {
	l, e := text.Needs(office(), examples(), []api.CopyPart{part(api.CopyHeading, "effi", "shelfful"), part(api.CopyBody, "fi"), part(api.CopyNote, "shelfful", "ffl", "-")})
	wantList(t, "Needs", l, e, []int{3, 4, 0, 5, 2, 2, 2, 1, 1, 1, 1, 0, 0}, api.OK)
	l, e = text.Needs(office(), examples(), nil)
	wantList(t, "Needs of no copy", l, e, make([]int, 13), api.OK)
	words := slices.Repeat([]string{"eeeeeeeeeeeeeeeeeeeeeeeeeeeeee"}, 100)
	l, e = text.Needs(office(), examples(), slices.Repeat([]api.CopyPart{part(api.CopyBody, words...)}, 60))
	wantList(t, "Needs of the longest copy", l, e, append([]int{180000}, make([]int, 12)...), api.OK)
	l, e = text.Needs(office(), examples(), []api.CopyPart{part(api.CopyBody, "e"), part(api.CopyNote, "e", "ea")})
	wantList(t, "Needs of what cannot be set", l, e, nil, api.ErrMissing)
	l, e = text.Needs(office(), examples(), []api.CopyPart{part(api.CopyBody, "a"), part(0)})
	wantList(t, "Needs of no copy ahead of what cannot be set", l, e, nil, api.ErrKind)
}

// P2.6: divided words.
func TestParted(t *testing.T) {
	r := examples("ef-fie", "shelf-ful", "ff-f-i", "fif-fl", "ii-fii")
	r.Bars = append(r.Bars, "f|f", "fi|ffl", "iif|ii", "f|ffi")
	for _, c := range []struct {
		word   string
		place  int
		sorts  [2][]int
		e      api.Errno
		reason string
	}{
		{"effie", 2, [2][]int{{0, 1, 7}, {9, 0}}, api.OK, ""},
		{"shelfful", 5, [2][]int{{5, 6, 0, 3, 1, 7}, {1, 4, 3}}, api.OK, ""},
		{"fffi", 2, [2][]int{{1, 1, 7}, {9}}, api.OK, "the whole word is barred at 1"},
		{"fffi", 3, [2][]int{}, api.ErrBreak, "too near to the end"},
		{"fiffl", 3, [2][]int{{9, 1, 7}, {11}}, api.OK, "the bar at 2 is no one for the part behind"},
		{"iifii", 2, [2][]int{{2, 2, 7}, {1, 2, 2}}, api.OK, "the bar at 3 is behind the place"},
		{"effie", 1, [2][]int{}, api.ErrBreak, ""},
		{"effie", 0, [2][]int{}, api.ErrBreak, ""},
		{"effie", 5, [2][]int{}, api.ErrBreak, ""},
		{"effie", -1, [2][]int{}, api.ErrBreak, ""},
		{"effie", 1<<63 - 1, [2][]int{}, api.ErrBreak, ""},
		{"aaaa", 2, [2][]int{}, api.ErrBreak, "it cannot be set either"},
		{"table", 3, [2][]int{}, api.ErrMissing, "neither ahead nor behind"},
	} {
		l, e := text.Parted(office(), r, api.TextPlace{Word: c.word, Place: c.place})
		if e != c.e || fmt.Sprint(l) != fmt.Sprint(c.sorts) {
			t.Errorf("Parted %q at %d (%s): %v, error %d, want %v, error %d", c.word, c.place, c.reason, l, e, c.sorts, c.e)
		}
	}
	whole := api.TextPlace{Word: "table", Place: 3}
	for _, c := range []struct {
		fount api.Fount
		sorts [2][]int
		e     api.Errno
	}{
		{fountOf("t", "a", "b", "l", "e", "-", "bl", "tabl"), [2][]int{{0, 1, 2, 5}, {3, 4}}, api.OK},
		{fountOf("tab", "le", "able", "-"), [2][]int{{0, 3}, {1}}, api.OK},
		{fountOf("-", "le", "tab"), [2][]int{{2, 0}, {1}}, api.OK},
		{fountOf("le", "tabl", "-"), [2][]int{}, api.ErrMissing},
		{fountOf("tab", "le", "--", "b-"), [2][]int{}, api.ErrMissing},
		{fountOf("tab", "able", "-"), [2][]int{}, api.ErrMissing},
	} {
		l, e := text.Parted(c.fount, examples(), whole)
		if e != c.e || fmt.Sprint(l) != fmt.Sprint(c.sorts) {
			t.Errorf("Parted by %v: %v, error %d, want %v, error %d", c.fount.Sorts, l, e, c.sorts, c.e)
		}
		if c.e != api.OK && !reflect.DeepEqual(l, [2][]int{}) {
			t.Errorf("Parted by %v: %v beside an error", c.fount.Sorts, l)
		}
	}
}
