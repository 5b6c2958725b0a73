package impose_test

import (
	"slices"
	"testing"

	"tympan/api"
	"tympan/impose"
)

func bookOf(pages, per int, plates, cancels []int) api.ImposeBook {
	return api.ImposeBook{Pages: pages, PerSignature: per, Plates: plates, Cancels: cancels}
}

// ascending is so many numbers from 1 on.
func ascending(n int) []int {
	var l []int
	for i := range n {
		l = append(l, i+1)
	}
	return l
}

// wrongBook is a book with its error, and the plate or the cancel that has it.
type wrongBook struct {
	what   string
	b      api.ImposeBook
	number int
	e      api.Errno
}

// wrongBooks is books with each error of CheckBook, mostly with a later one, too.
func wrongBooks() []wrongBook {
	many := slices.Repeat([]int{-1}, 41)
	return []wrongBook{
		{"no pages", bookOf(0, 3, many, many), 0, api.ErrRange},
		{"-1 pages", bookOf(-1, 8, nil, nil), 0, api.ErrRange},
		{"4001 pages", bookOf(4001, 8, nil, nil), 0, api.ErrRange},
		{"the greatest number of pages", bookOf(great, 8, nil, nil), 0, api.ErrRange},
		{"signatures of 1", bookOf(20, 1, many, many), 0, api.ErrRange},
		{"signatures of 0", bookOf(20, 0, nil, nil), 0, api.ErrRange},
		{"signatures of 65", bookOf(20, 65, many, many), 0, api.ErrRange},
		{"signatures of 66", bookOf(20, 66, nil, nil), 0, api.ErrRange},
		{"signatures of the least number", bookOf(20, small, nil, nil), 0, api.ErrRange},
		{"signatures of 3", bookOf(20, 3, many, many), 0, api.ErrForm},
		{"signatures of 63", bookOf(20, 63, nil, nil), 0, api.ErrForm},
		{"41 plates", bookOf(20, 8, many, many), 0, api.ErrLarge},
		{"41 plates that ascend", bookOf(50, 8, ascending(41), nil), 0, api.ErrLarge},
		{"the plate -1", bookOf(20, 8, []int{0, 3, -1}, many), 2, api.ErrRange},
		{"the plate 21", bookOf(20, 8, []int{20, 21, 3}, many), 1, api.ErrRange},
		{"the greatest plate", bookOf(20, 8, []int{great}, nil), 0, api.ErrRange},
		{"the least plate", bookOf(20, 8, []int{small}, nil), 0, api.ErrRange},
		{"plates that descend", bookOf(20, 8, []int{4, 4, 3, -1}, many), 2, api.ErrOrder},
		{"41 cancels", bookOf(20, 8, []int{0, 20}, many), 0, api.ErrLarge},
		{"41 cancels that ascend", bookOf(50, 8, nil, ascending(41)), 0, api.ErrLarge},
		{"the cancel 0", bookOf(20, 8, nil, []int{0, 1}), 0, api.ErrRange},
		{"the cancel 21", bookOf(20, 8, nil, []int{19, 20, 21}), 2, api.ErrRange},
		{"the cancel -1", bookOf(20, 8, nil, []int{5, -1}), 1, api.ErrRange},
		{"the greatest cancel", bookOf(20, 8, nil, []int{1, great}), 1, api.ErrRange},
		{"a cancel twice", bookOf(20, 8, []int{1, 1}, []int{3, 5, 5, 0}), 2, api.ErrOrder},
		{"cancels that descend", bookOf(20, 8, nil, []int{3, 2}), 1, api.ErrOrder},
	}
}

// P6.4: what is wrong with a book.
func TestWrongBooks(t *testing.T) {
	for _, c := range wrongBooks() {
		n, e := impose.CheckBook(c.b)
		want(t, "CheckBook, "+c.what, n, e, c.number, c.e)
		signatures, blanks, e := impose.Signatures(c.b)
		want(t, "Signatures, "+c.what, signatures, e, nil, c.e)
		want(t, "blanks, "+c.what, blanks, e, 0, c.e)
		bound, e := impose.Bound(c.b)
		want(t, "Bound, "+c.what, bound, e, nil, c.e)
	}
}

// P6.4: books without errors, at their limits.
func TestRightBooks(t *testing.T) {
	for _, b := range []api.ImposeBook{
		bookOf(1, 2, nil, nil), bookOf(4000, 64, nil, nil), bookOf(20, 8, []int{0, 0, 20, 20}, []int{1, 2, 20}),
		bookOf(40, 8, slices.Repeat([]int{7}, 40), ascending(40)), bookOf(41, 2, ascending(40), nil),
	} {
		n, e := impose.CheckBook(b)
		want(t, "CheckBook", n, e, 0, api.OK)
	}
}

// P6.4: signatures and blank pages.
func TestSignatures(t *testing.T) {
	for _, c := range []struct {
		pages, per int
		want       []api.Range
		blanks     int
	}{
		{20, 8, []api.Range{{Lo: 1, Hi: 8}, {Lo: 9, Hi: 16}, {Lo: 17, Hi: 20}}, 4},
		{16, 8, []api.Range{{Lo: 1, Hi: 8}, {Lo: 9, Hi: 16}}, 0},
		{17, 8, []api.Range{{Lo: 1, Hi: 8}, {Lo: 9, Hi: 16}, {Lo: 17, Hi: 17}}, 7},
		{1, 64, []api.Range{{Lo: 1, Hi: 1}}, 63},
		{3, 2, []api.Range{{Lo: 1, Hi: 2}, {Lo: 3, Hi: 3}}, 1},
	} {
		signatures, blanks, e := impose.Signatures(bookOf(c.pages, c.per, []int{0}, []int{1}))
		want(t, "Signatures", signatures, e, c.want, api.OK)
		want(t, "blanks", blanks, e, c.blanks, api.OK)
	}
}

// P6.9: signatures together have all pages of a book, in order, each once; blanks fill the last one.
func TestAllSignatures(t *testing.T) {
	for per := 2; per <= 64; per += 2 {
		for _, pages := range []int{1, 2, 3, 63, 64, 65, 100, 127, 128, 129, 3968, 3999, 4000} {
			signatures, blanks, e := impose.Signatures(bookOf(pages, per, nil, nil))
			next := 1
			for i, s := range signatures {
				if size := s.Hi - s.Lo + 1; s.Lo != next || size < 1 || size > per || size < per && i < len(signatures)-1 {
					t.Errorf("signature %d of %d pages by %d: %v", i, pages, per, s)
				}
				next = s.Hi + 1
			}
			if e != api.OK || next != pages+1 || blanks < 0 || blanks >= per || (pages+blanks)%per != 0 {
				t.Errorf("Signatures of %d pages by %d: %v, %d, error %d", pages, per, signatures, blanks, e)
			}
		}
	}
}

// P6.4: what is bound, with plates and cancels.
func TestBound(t *testing.T) {
	for _, c := range []struct {
		b    api.ImposeBook
		want []int
	}{
		{bookOf(6, 8, []int{0, 2}, []int{3}), []int{-1, 1, 2, -1, 0, 4, 5, 6}},
		{bookOf(3, 2, nil, nil), []int{1, 2, 3}},
		{bookOf(1, 2, nil, []int{1}), []int{0}},
		{bookOf(2, 2, []int{0, 0, 0, 2, 2}, nil), []int{-1, -1, -1, 1, 2, -1, -1}},
		{bookOf(3, 2, []int{1, 1, 3}, []int{1, 3}), []int{0, -1, -1, 2, 0, -1}},
	} {
		bound, e := impose.Bound(c.b)
		want(t, "Bound", bound, e, c.want, api.OK)
	}
}

// P6.4, P6.9: what is bound of made books: the pages in order, or 0 in their places, with as many
// plates behind each one as it has; without plates as many entries as the book has pages.
func TestMadeBooks(t *testing.T) {
	m := newMaker(11)
	for range 300 {
		b := bookOf(1+m.Intn(60), 2, nil, nil)
		for page := range b.Pages + 1 {
			for len(b.Plates) < 40 && m.Intn(4) == 0 {
				b.Plates = append(b.Plates, page)
			}
			if page > 0 && len(b.Cancels) < 40 && m.Intn(4) == 0 {
				b.Cancels = append(b.Cancels, page)
			}
		}
		var wanted []int
		for page := range b.Pages + 1 {
			if slices.Contains(b.Cancels, page) {
				wanted = append(wanted, 0)
			} else if page > 0 {
				wanted = append(wanted, page)
			}
			for _, plate := range b.Plates {
				if plate == page {
					wanted = append(wanted, -1)
				}
			}
		}
		bound, e := impose.Bound(b)
		want(t, "Bound", bound, e, wanted, api.OK)
		b.Plates = nil
		if bound, e := impose.Bound(b); e != api.OK || len(bound) != b.Pages {
			t.Errorf("Bound without plates: %v, error %d", bound, e)
		}
	}
}
