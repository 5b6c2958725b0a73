package fount_test

import (
	"slices"
	"testing"

	"tympan/api"
	"tympan/fount"
)

// P1.1: each error of a fount, at the edges of what is allowed.
func TestCheckFountFrame(t *testing.T) {
	for _, c := range []struct {
		name  string
		body  int
		sorts int
		e     api.Errno
	}{
		{"rom", 10, 5, api.OK},
		{"R", 1, 1, api.OK},
		{"z", 1, 1, api.OK},
		{"a", 1, 1, api.OK},
		{"A", 1, 1, api.OK},
		{"Z", 1, 1, api.OK},
		{"a-0123456789", 144, 120, api.OK},
		{"a-", 10, 5, api.OK},
		{"", 10, 5, api.ErrName},
		{"a-01234567890", 10, 5, api.ErrName},
		{"1a", 10, 5, api.ErrName},
		{"-a", 10, 5, api.ErrName},
		{"a_b", 10, 5, api.ErrName},
		{"a b", 10, 5, api.ErrName},
		{"a/", 10, 5, api.ErrName},
		{"a:", 10, 5, api.ErrName},
		{"a@", 10, 5, api.ErrName},
		{"a[", 10, 5, api.ErrName},
		{"a`", 10, 5, api.ErrName},
		{"a{", 10, 5, api.ErrName},
		{"@", 10, 5, api.ErrName},
		{"[", 10, 5, api.ErrName},
		{"`", 10, 5, api.ErrName},
		{"{", 10, 5, api.ErrName},
		{"caf\xc3\xa9", 10, 5, api.ErrName},
		{"a\x00", 10, 5, api.ErrName},
		{"rom", 0, 5, api.ErrRange},
		{"rom", -1, 5, api.ErrRange},
		{"rom", 145, 5, api.ErrRange},
		{"rom", 10, 0, api.ErrShape},
		{"rom", 10, 121, api.ErrLarge},
		{"", 0, 0, api.ErrName},
		{"rom", 0, 0, api.ErrRange},
		{"rom", 0, 121, api.ErrRange},
	} {
		f := wide(c.sorts)
		f.Name, f.Body = c.name, c.body
		if n, e := fount.CheckFount(f); n != 0 || e != c.e {
			t.Errorf("CheckFount of %q, body %d, %d sorts: %d, error %d, want error %d", c.name, c.body, c.sorts, n, e, c.e)
		}
	}
}

func TestCheckFountSorts(t *testing.T) {
	for _, c := range []struct {
		sort api.TypeSort
		e    api.Errno
	}{
		{api.TypeSort{Name: "c", Text: "c", Kind: api.SortLetter, Width: 1}, api.OK},
		{api.TypeSort{Name: "rom", Text: "!", Kind: api.SortLetter, Width: 100000}, api.OK},
		{api.TypeSort{Name: "A", Text: "~", Kind: api.SortLetter, Width: 300}, api.OK},
		{api.TypeSort{Name: "c", Text: "!~", Kind: api.SortLigature, Width: 300}, api.OK},
		{api.TypeSort{Name: "c", Text: "ffil", Kind: api.SortLigature, Width: 300}, api.OK},
		{api.TypeSort{Name: "thick2", Kind: api.SortSpace, Width: 200}, api.OK},
		{api.TypeSort{Name: "c-----------", Text: "c", Kind: api.SortLetter, Width: 1}, api.OK},
		{api.TypeSort{Name: "", Text: "c", Kind: api.SortLetter, Width: 300}, api.ErrName},
		{api.TypeSort{Name: "2", Text: "2", Kind: api.SortLetter, Width: 300}, api.ErrName},
		{api.TypeSort{Name: "c------------", Text: "c", Kind: api.SortLetter, Width: 300}, api.ErrName},
		{api.TypeSort{Name: "a", Text: "c", Kind: api.SortLetter, Width: 300}, api.ErrExists},
		{api.TypeSort{Name: "thin", Text: "c", Kind: api.SortLetter, Width: 300}, api.ErrExists},
		{api.TypeSort{Name: "fi", Kind: api.SortSpace, Width: 300}, api.ErrExists},
		{api.TypeSort{Name: "c", Text: "c", Kind: 0, Width: 300}, api.ErrKind},
		{api.TypeSort{Name: "c", Text: "c", Kind: -1, Width: 300}, api.ErrKind},
		{api.TypeSort{Name: "c", Text: "c", Kind: 4, Width: 300}, api.ErrKind},
		{api.TypeSort{Name: "c", Text: "c", Kind: api.SortLetter, Width: 0}, api.ErrRange},
		{api.TypeSort{Name: "c", Text: "c", Kind: api.SortLetter, Width: -1}, api.ErrRange},
		{api.TypeSort{Name: "c", Text: "c", Kind: api.SortLetter, Width: 100001}, api.ErrRange},
		{api.TypeSort{Name: "c", Text: "", Kind: api.SortLetter, Width: 300}, api.ErrForm},
		{api.TypeSort{Name: "c", Text: "cd", Kind: api.SortLetter, Width: 300}, api.ErrForm},
		{api.TypeSort{Name: "c", Text: " ", Kind: api.SortLetter, Width: 300}, api.ErrForm},
		{api.TypeSort{Name: "c", Text: "\x7f", Kind: api.SortLetter, Width: 300}, api.ErrForm},
		{api.TypeSort{Name: "c", Text: "\xc3\xa9", Kind: api.SortLigature, Width: 300}, api.ErrForm},
		{api.TypeSort{Name: "c", Text: "", Kind: api.SortLigature, Width: 300}, api.ErrForm},
		{api.TypeSort{Name: "c", Text: "c", Kind: api.SortLigature, Width: 300}, api.ErrForm},
		{api.TypeSort{Name: "c", Text: "cdefg", Kind: api.SortLigature, Width: 300}, api.ErrForm},
		{api.TypeSort{Name: "c", Text: "c d", Kind: api.SortLigature, Width: 300}, api.ErrForm},
		{api.TypeSort{Name: "c", Text: "cd ", Kind: api.SortLigature, Width: 300}, api.ErrForm},
		{api.TypeSort{Name: "c", Text: " ", Kind: api.SortSpace, Width: 300}, api.ErrForm},
		{api.TypeSort{Name: "c", Text: "c", Kind: api.SortSpace, Width: 300}, api.ErrForm},
		{api.TypeSort{Name: "c", Text: "b", Kind: api.SortLetter, Width: 300}, api.ErrClash},
		{api.TypeSort{Name: "c", Text: "fi", Kind: api.SortLigature, Width: 300}, api.ErrClash},
		// Of several errors the one that is listed first.
		{api.TypeSort{Name: "", Text: "a", Kind: 0, Width: 0}, api.ErrName},
		{api.TypeSort{Name: "a", Text: "a", Kind: 0, Width: 0}, api.ErrExists},
		{api.TypeSort{Name: "c", Text: "a", Kind: 0, Width: 0}, api.ErrKind},
		{api.TypeSort{Name: "c", Text: "a", Kind: api.SortLetter, Width: 0}, api.ErrRange},
		{api.TypeSort{Name: "c", Text: "a", Kind: api.SortSpace, Width: 0}, api.ErrRange},
		{api.TypeSort{Name: "c", Text: "a", Kind: api.SortSpace, Width: 1}, api.ErrForm},
		{api.TypeSort{Name: "c", Text: "b", Kind: api.SortLigature, Width: 1}, api.ErrForm},
	} {
		f := roman()
		f.Sorts = append(f.Sorts, c.sort)
		want := 0
		if c.e != api.OK {
			want = 5
		}
		n, e := fount.CheckFount(f)
		wantNumber(t, "CheckFount with "+c.sort.Name, n, e, want, c.e)
	}
}

// P1.1: errors of sorts are looked for one by one, behind those of the frame.
func TestCheckFountFirstSort(t *testing.T) {
	f := roman()
	f.Sorts[1].Text, f.Sorts[2].Name, f.Sorts[4].Kind = "a", "", 0
	n, e := fount.CheckFount(f)
	wantNumber(t, "CheckFount of three errors", n, e, 1, api.ErrClash)
	f.Sorts[1].Text = "b"
	n, e = fount.CheckFount(f)
	wantNumber(t, "CheckFount of two errors", n, e, 2, api.ErrName)
	f.Body = 145
	n, e = fount.CheckFount(f)
	wantNumber(t, "CheckFount with a wrong body", n, e, 0, api.ErrRange)
	large := wide(121)
	large.Sorts[3].Name = ""
	n, e = fount.CheckFount(large)
	wantNumber(t, "CheckFount of too many sorts", n, e, 0, api.ErrLarge)
}

// P1, P1.1 to P1.7: every function tells the errors of its fount, with zero values beside them.
func TestErrorsOfTheFount(t *testing.T) {
	wrong := filled(7, -1)
	lists := [][]int{{0}, {3, 2, 0, 5, 5}, {1, 1, 0, 2, 0}}
	for want, f := range badFounts() {
		for _, c := range calls(lists[0], lists[1], lists[2], lists) {
			if r, e := c.do(f); e != want || !isZero(r) {
				t.Errorf("%s of a fount with error %d: %v, %d", c.name, want, r, e)
			}
		}
		for _, c := range calls(filled(10001, -1), wrong, wrong, slices.Repeat([][]int{wrong}, 101)) {
			if r, e := c.do(f); e != want || !isZero(r) {
				t.Errorf("%s of wrong arguments and a fount with error %d: %v, %d", c.name, want, r, e)
			}
		}
	}
	bad := badFounts()[api.ErrName]
	if r, e := fount.PartOf(bad, -1); r != (api.Frac{}) || e != api.ErrName {
		t.Errorf("PartOf of no sort of a bad fount: %v, %d", r, e)
	}
	if n, e := fount.Find(bad, "none"); n != 0 || e != api.ErrName {
		t.Errorf("Find of no name in a bad fount: %d, %d", n, e)
	}
	if n, e := fount.Printing(bad, "none"); n != 0 || e != api.ErrName {
		t.Errorf("Printing of no text of a bad fount: %d, %d", n, e)
	}
	if l, e := fount.BillFor(bad, nil, -1); len(l) != 0 || e != api.ErrName {
		t.Errorf("BillFor of a wrong total for a bad fount: %v, %d", l, e)
	}
	if n, m, e := fount.Cast(bad, -1, nil); n != 0 || m != 0 || e != api.ErrName {
		t.Errorf("Cast of a wrong metal for a bad fount: %d, %d, %d", n, m, e)
	}
	for _, s := range []string{"", "a", "a 0"} {
		if l, e := fount.ParseCase(bad, s); len(l) != 0 || e != api.ErrName {
			t.Errorf("ParseCase of %q for a bad fount: %v, %d", s, l, e)
		}
	}
}

// P1.1: the em, and parts of it.
func TestEmAndParts(t *testing.T) {
	for _, c := range [][2]int{{1, 60}, {10, 600}, {144, 8640}} {
		f := roman()
		f.Body = c[0]
		n, e := fount.EmOf(f)
		wantNumber(t, "EmOf", n, e, c[1], api.OK)
	}
	for _, c := range []struct {
		width, body int
		part        api.Frac
	}{
		{200, 10, api.Frac{Num: 1, Den: 3}},
		{120, 10, api.Frac{Num: 1, Den: 5}},
		{600, 10, api.Frac{Num: 1, Den: 1}},
		{900, 10, api.Frac{Num: 3, Den: 2}},
		{7, 10, api.Frac{Num: 7, Den: 600}},
		{450, 10, api.Frac{Num: 3, Den: 4}},
		{1, 144, api.Frac{Num: 1, Den: 8640}},
		{100000, 144, api.Frac{Num: 625, Den: 54}},
		{100000, 1, api.Frac{Num: 5000, Den: 3}},
	} {
		f := roman()
		f.Body, f.Sorts[3].Width = c.body, c.width
		if p, e := fount.PartOf(f, 3); p != c.part || e != api.OK {
			t.Errorf("PartOf %d units of body %d: %v, %d, want %v", c.width, c.body, p, e, c.part)
		}
	}
	if p, e := fount.PartOf(roman(), 0); p != (api.Frac{Num: 1, Den: 2}) || e != api.OK {
		t.Errorf("PartOf the first sort: %v, %d", p, e)
	}
	if p, e := fount.PartOf(roman(), 4); p != (api.Frac{Num: 1, Den: 5}) || e != api.OK {
		t.Errorf("PartOf the last sort: %v, %d", p, e)
	}
	for _, sort := range []int{-1, 5, 1 << 62, -1 << 63} {
		if p, e := fount.PartOf(roman(), sort); p != (api.Frac{}) || e != api.ErrMissing {
			t.Errorf("PartOf sort %d: %v, %d", sort, p, e)
		}
	}
}

// P1.1: sorts by their names, and by what they print.
func TestFindAndPrinting(t *testing.T) {
	for i, s := range roman().Sorts {
		n, e := fount.Find(roman(), s.Name)
		wantNumber(t, "Find "+s.Name, n, e, i, api.OK)
	}
	for i, s := range []string{"a", "b", "fi"} {
		n, e := fount.Printing(roman(), s)
		wantNumber(t, "Printing "+s, n, e, i, api.OK)
	}
	f := roman()
	f.Sorts[0].Name, f.Sorts[1].Name = "b", "a"
	n, e := fount.Find(f, "a")
	wantNumber(t, "Find by the name", n, e, 1, api.OK)
	n, e = fount.Printing(f, "a")
	wantNumber(t, "Printing by the text", n, e, 0, api.OK)
	for _, s := range []string{"", "c", "A", "rom", " a", "a ", "f"} {
		n, e := fount.Find(roman(), s)
		wantNumber(t, "Find "+s, n, e, 0, api.ErrMissing)
	}
	for _, s := range []string{"", " ", "c", "f", "i", "ab", "thick"} {
		n, e := fount.Printing(roman(), s)
		wantNumber(t, "Printing "+s, n, e, 0, api.ErrMissing)
	}
}

// P1.1: spaces, the narrower ones first, those of one width in their order.
func TestSpaces(t *testing.T) {
	l, e := fount.Spaces(roman())
	wantList(t, "Spaces", l, e, []int{4, 3}, api.OK)
	f := roman()
	f.Sorts = f.Sorts[:3]
	l, e = fount.Spaces(f)
	wantList(t, "Spaces of a fount without any", l, e, nil, api.OK)
	f = wide(40)
	f.Sorts[7].Width, f.Sorts[30].Width = 500, 500
	f.Sorts[20] = api.TypeSort{Name: "x", Text: "x", Kind: api.SortLetter, Width: 1}
	want := []int{7, 30}
	for i := range 40 {
		if i != 7 && i != 20 && i != 30 {
			want = append(want, i)
		}
	}
	l, e = fount.Spaces(f)
	wantList(t, "Spaces of equal widths", l, e, want, api.OK)
}
