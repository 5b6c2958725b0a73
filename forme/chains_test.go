package forme_test

import (
	"strconv"
	"testing"

	"tympan/api"
	"tympan/forme"
)

// wrongReal is a forme with true sizes, their error, and the piece that has it.
type wrongReal struct {
	what   string
	f      api.Forme
	r      api.FormeReal
	number int
	e      api.Errno
}

// oneQuoin is a forme of one quoin that presses across, or down.
func oneQuoin(kind int) api.Forme {
	return formeOf(4000, 100, pieceOf("q", kind, 0, 0, 4000, 100))
}

func realOf(width, height, travel int) api.FormeReal {
	return api.FormeReal{Widths: []int{width}, Heights: []int{height}, Travel: []int{travel}}
}

// wrongSizes is true sizes with each error but that they do not fit, mostly with a later one, too.
func wrongSizes() []wrongReal {
	type r = api.FormeReal
	gap := locked()
	gap.Pieces = gap.Pieces[:4]
	last := withPiece(4, quoinDown("qd", 0, 5, 9, 1))
	wrong := []wrongReal{
		{"no pieces", formeOf(1, 1), r{}, 0, api.ErrGap},
		{"a gap and the sizes of all", gap, lockedReal(), 0, api.ErrGap},
		{"a gap of a point", last, realOf(0, 0, 0), 0, api.ErrGap},
	}
	add := func(what string, number int, e api.Errno, how func(r *r)) {
		wrong = append(wrong, wrongReal{what, locked(), realWith(how), number, e})
	}
	add("nothing", 0, api.ErrShape, func(r *r) { *r = api.FormeReal{} })
	add("too few widths", 0, api.ErrShape, func(r *r) { r.Widths = []int{0, 118, 478, 120} })
	add("too many widths", 0, api.ErrShape, func(r *r) { r.Widths = append(r.Widths, 0) })
	add("too few heights", 0, api.ErrShape, func(r *r) { r.Heights, r.Widths[0] = r.Heights[:4], 0 })
	add("too many heights", 0, api.ErrShape, func(r *r) { r.Heights = append(r.Heights, 1) })
	add("too few ways", 0, api.ErrShape, func(r *r) { r.Travel, r.Heights[0] = r.Travel[:4], 0 })
	add("too many ways", 0, api.ErrShape, func(r *r) { r.Travel = append(r.Travel, 0) })
	add("no ways", 0, api.ErrShape, func(r *r) { r.Travel = nil })
	for _, n := range []int{0, -1, 480001, great, small} {
		add("the width "+strconv.Itoa(n), 2, api.ErrRange, func(r *r) { r.Widths[2], r.Travel[2], r.Travel[3] = n, 1, 6001 })
		add("the height "+strconv.Itoa(n), 3, api.ErrRange, func(r *r) { r.Heights[3], r.Widths[4] = n, 0 })
	}
	for _, n := range []int{-1, 6001, great, small} {
		add("the way "+strconv.Itoa(n), 4, api.ErrRange, func(r *r) { r.Travel[4], r.Widths[4] = n, 601 })
		add("the way of a page "+strconv.Itoa(n), 0, api.ErrRange, func(r *r) { r.Travel[0] = n })
	}
	add("a page that is driven", 0, api.ErrForm, func(r *r) { r.Travel[0], r.Widths[1] = 1, 0 })
	add("furniture that is driven", 1, api.ErrForm, func(r *r) { r.Travel[1], r.Heights[4] = 6000, 61 })
	add("later furniture that is driven", 2, api.ErrForm, func(r *r) { r.Travel[2], r.Travel[3], r.Travel[4] = 1, 1, -1 })
	return wrong
}

// unfit is true sizes that do not fit.
func unfit() []wrongReal {
	var wrong []wrongReal
	add := func(what string, how func(r *api.FormeReal)) {
		wrong = append(wrong, wrongReal{what, locked(), realWith(how), 0, api.ErrBreak})
	}
	add("a chain across too long by 1", func(r *api.FormeReal) { r.Widths[0] = 363 })
	add("a chain of two across too long by 1", func(r *api.FormeReal) { r.Widths[2] = 481 })
	add("a quoin across too long by 1", func(r *api.FormeReal) { r.Widths[4] = 601 })
	add("a chain down too long by 1", func(r *api.FormeReal) { r.Heights[1] = 243 })
	add("a quoin down too long by 1", func(r *api.FormeReal) { r.Heights[3] = 301 })
	add("the greatest sizes", func(r *api.FormeReal) { r.Widths[0], r.Heights[0] = 480000, 480000 })
	one := formeOf(1, 1, page("p", 0, 0, 1, 1))
	return append(wrong,
		wrongReal{"a page too wide", one, realOf(61, 60, 0), 0, api.ErrBreak},
		wrongReal{"a page too high", one, realOf(60, 61, 0), 0, api.ErrBreak},
		wrongReal{"a quoin as wide as none is", oneQuoin(api.PieceQuoinAcross), realOf(240001, 1, 6000), 0, api.ErrBreak})
}

// wrongReals is all that is wrong with true sizes, or with their forme; of a forme the number is not told.
func wrongReals() []wrongReal {
	wrong := append(wrongSizes(), unfit()...)
	for _, c := range wrongFormes() {
		wrong = append(wrong, wrongReal{c.what, c.f, api.FormeReal{}, 0, c.e})
	}
	return wrong
}

// P7.4: what is wrong with true sizes.
func TestWrongReals(t *testing.T) {
	for _, c := range wrongReals() {
		n, e := forme.CheckReal(c.f, c.r)
		want(t, "CheckReal, "+c.what, n, e, c.number, c.e)
	}
}

// P7.4: true sizes without errors, at their limits.
func TestRightReals(t *testing.T) {
	for _, c := range []struct {
		f api.Forme
		r api.FormeReal
	}{
		{locked(), lockedReal()},
		{locked(), realWith(func(r *api.FormeReal) { r.Widths[0], r.Travel[3], r.Travel[4] = 362, 6000, 1 })},
		{locked(), api.FormeReal{Widths: ones(5, 1), Heights: ones(5, 1), Travel: make([]int, 5)}},
		// sizes may be far from 60 times the points
		{locked(), api.FormeReal{Widths: []int{1, 598, 599, 1, 600}, Heights: []int{300, 1, 59, 359, 1}, Travel: make([]int, 5)}},
		{formeOf(1, 1, page("p", 0, 0, 1, 1)), realOf(60, 60, 0)},
		{formeOf(1, 1, page("p", 0, 0, 1, 1)), realOf(1, 1, 0)},
		{oneQuoin(api.PieceQuoinAcross), realOf(240000, 6000, 6000)},
		{oneQuoin(api.PieceQuoinDown), realOf(240000, 6000, 6000)},
	} {
		n, e := forme.CheckReal(c.f, c.r)
		want(t, "CheckReal", n, e, 0, api.OK)
	}
}

// P7.4: true sizes that do not fit are no error of the longest chains, and of the check of a chain; all
// others are.
func TestWhatIsAskedOfChains(t *testing.T) {
	for _, c := range wrongSizes() {
		checkChains(t, c, c.e)
	}
	for _, c := range wrongFormes() {
		checkChains(t, wrongReal{what: c.what, f: c.f}, c.e)
	}
	for _, c := range unfit() {
		if _, _, e := forme.LongestAcross(c.f, c.r); e != api.OK {
			t.Errorf("LongestAcross, %s: error %d", c.what, e)
		}
		if _, _, e := forme.LongestDown(c.f, c.r); e != api.OK {
			t.Errorf("LongestDown, %s: error %d", c.what, e)
		}
		_, chain, _ := forme.LongestAcross(c.f, c.r)
		if _, e := forme.CheckChain(c.f, c.r, api.FormeChain{Pieces: chain}); e != api.OK {
			t.Errorf("CheckChain, %s: error %d", c.what, e)
		}
	}
}

// checkChains asks for the longest chains, and for a chain, of wrong true sizes.
func checkChains(t *testing.T, c wrongReal, wantError api.Errno) {
	t.Helper()
	length, chain, e := forme.LongestAcross(c.f, c.r)
	want(t, "LongestAcross, "+c.what, chain, e, nil, wantError)
	want(t, "its length, "+c.what, length, e, 0, wantError)
	length, chain, e = forme.LongestDown(c.f, c.r)
	want(t, "LongestDown, "+c.what, chain, e, nil, wantError)
	want(t, "its length, "+c.what, length, e, 0, wantError)
	for _, x := range []api.FormeChain{{}, {Pieces: []int{-1}}, {Pieces: []int{4}}, {Pieces: []int{4}, Down: true}} {
		length, e = forme.CheckChain(c.f, c.r, x)
		want(t, "CheckChain, "+c.what, length, e, 0, wantError)
	}
}

// P7.4: the longest chains of example 3, and of several ones the lexicographically first one.
func TestLongestChains(t *testing.T) {
	squares := formeOf(2, 2, page("d", 1, 1, 1, 1), page("c", 0, 1, 1, 1), page("b", 1, 0, 1, 1), page("a", 0, 0, 1, 1))
	for _, c := range []struct {
		what           string
		f              api.Forme
		r              api.FormeReal
		length, height int
		across, down   []int
	}{
		{what: "example 3", f: locked(), r: lockedReal(), length: 600, across: []int{4}, height: 360, down: []int{3, 4}},
		{what: "example 3 with less at the bottom", f: locked(), r: realWith(func(r *api.FormeReal) { r.Widths[4], r.Heights[3] = 597, 297 }),
			length: 598, across: []int{0, 1, 3}, height: 358, down: []int{0, 2, 4}},
		{what: "the furniture wider", f: locked(), r: realWith(func(r *api.FormeReal) { r.Widths[2], r.Widths[4] = 479, 1 }),
			length: 599, across: []int{2, 3}, height: 360, down: []int{3, 4}},
		{what: "the furniture higher", f: locked(), r: realWith(func(r *api.FormeReal) { r.Heights[1], r.Heights[3] = 241, 1 }),
			length: 600, across: []int{4}, height: 359, down: []int{1, 2, 4}},
		{what: "what does not fit", f: locked(), r: api.FormeReal{Widths: ones(5, 480000), Heights: ones(5, 480000), Travel: make([]int, 5)},
			length: 1440000, across: []int{0, 1, 3}, height: 1440000, down: []int{0, 2, 4}},
		{what: "squares", f: squares, r: api.FormeReal{Widths: ones(4, 60), Heights: ones(4, 60), Travel: make([]int, 4)}, length: 120, across: []int{1, 0}, height: 120, down: []int{2, 0}},
		{what: "squares, the upper ones wider and those at the left higher", f: squares, r: api.FormeReal{Widths: []int{1, 2, 3, 4}, Heights: []int{1, 3, 2, 4}, Travel: make([]int, 4)},
			length: 7, across: []int{3, 2}, height: 7, down: []int{3, 1}},
		{what: "one piece", f: oneQuoin(api.PieceQuoinDown), r: realOf(7, 9, 0), length: 7, across: []int{0}, height: 9, down: []int{0}},
		{what: "a wheel", f: wheel(), r: api.FormeReal{Widths: ones(5, 1), Heights: ones(5, 1), Travel: make([]int, 5)}, length: 3, across: []int{4, 0, 3}, height: 3, down: []int{2, 0, 1}},
	} {
		length, chain, e := forme.LongestAcross(c.f, c.r)
		want(t, "LongestAcross, "+c.what, chain, e, c.across, api.OK)
		want(t, "its length, "+c.what, length, e, c.length, api.OK)
		height, chain, e := forme.LongestDown(c.f, c.r)
		want(t, "LongestDown, "+c.what, chain, e, c.down, api.OK)
		want(t, "its length, "+c.what, height, e, c.height, api.OK)
	}
}

// P7.4: what is a chain, and what is none.
func TestChains(t *testing.T) {
	long := realWith(func(r *api.FormeReal) { r.Widths[1], r.Heights[2] = 1118, 1058 })
	for _, c := range []struct {
		r      api.FormeReal
		pieces []int
		down   bool
		length int
		e      api.Errno
	}{
		{lockedReal(), []int{0, 1, 3}, false, 598, api.OK},
		{lockedReal(), []int{2, 3}, false, 598, api.OK},
		{lockedReal(), []int{4}, false, 600, api.OK},
		{lockedReal(), []int{0, 2, 4}, true, 358, api.OK},
		{lockedReal(), []int{1, 2, 4}, true, 358, api.OK},
		{lockedReal(), []int{3, 4}, true, 360, api.OK},
		{long, []int{0, 1, 3}, false, 1598, api.OK},
		{long, []int{1, 2, 4}, true, 1358, api.OK},
		{lockedReal(), nil, false, 0, api.ErrShape},
		{lockedReal(), []int{}, true, 0, api.ErrShape},
		{lockedReal(), []int{-1}, false, 0, api.ErrMissing},
		{lockedReal(), []int{5}, true, 0, api.ErrMissing},
		{lockedReal(), []int{great}, false, 0, api.ErrMissing},
		{lockedReal(), []int{small, 3}, false, 0, api.ErrMissing},
		{lockedReal(), []int{2, 3, 5}, false, 0, api.ErrMissing},
		{lockedReal(), []int{3, 3, 5}, false, 0, api.ErrMissing},
		{lockedReal(), []int{1, 2, -1}, true, 0, api.ErrMissing},
		{lockedReal(), []int{0}, false, 0, api.ErrOpen},
		{lockedReal(), []int{3}, false, 0, api.ErrOpen},
		{lockedReal(), []int{1, 3}, false, 0, api.ErrOpen},
		{lockedReal(), []int{0, 1}, false, 0, api.ErrOpen},
		{lockedReal(), []int{0, 3}, false, 0, api.ErrOpen},
		{lockedReal(), []int{3, 1, 0}, false, 0, api.ErrOpen},
		{lockedReal(), []int{0, 1, 3, 3}, false, 0, api.ErrOpen},
		{lockedReal(), []int{0, 0, 1, 3}, false, 0, api.ErrOpen},
		{lockedReal(), []int{4, 4}, false, 0, api.ErrOpen},
		{lockedReal(), []int{0, 1, 3, 4}, false, 0, api.ErrOpen},
		{lockedReal(), []int{0, 1, 3}, true, 0, api.ErrOpen},
		{lockedReal(), []int{4}, true, 0, api.ErrOpen},
		{lockedReal(), []int{0, 2, 4}, false, 0, api.ErrOpen},
		{lockedReal(), []int{0, 4}, true, 0, api.ErrOpen},
		{lockedReal(), []int{0, 2}, true, 0, api.ErrOpen},
		{lockedReal(), []int{2, 4}, true, 0, api.ErrOpen},
		// g begins in the column where p ends, but is below it
		{lockedReal(), []int{2, 1, 3}, false, 0, api.ErrOpen},
	} {
		length, e := forme.CheckChain(locked(), c.r, api.FormeChain{Pieces: c.pieces, Down: c.down})
		want(t, "CheckChain", length, e, c.length, c.e)
	}
}

// P7.4: a corner in common makes no neighbours.
func TestCorners(t *testing.T) {
	f := formeOf(2, 2, page("a", 0, 0, 1, 1), page("b", 1, 1, 1, 1), page("c", 0, 1, 1, 1), page("d", 1, 0, 1, 1))
	r := api.FormeReal{Widths: ones(4, 1), Heights: ones(4, 1), Travel: make([]int, 4)}
	for _, down := range []bool{false, true} {
		for _, pieces := range [][]int{{0, 1}, {2, 3}, {3, 2}, {1, 0}} {
			_, e := forme.CheckChain(f, r, api.FormeChain{Pieces: pieces, Down: down})
			want(t, "CheckChain", 0, e, 0, api.ErrOpen)
		}
	}
	length, e := forme.CheckChain(f, r, api.FormeChain{Pieces: []int{0, 3}})
	want(t, "CheckChain", length, e, 2, api.OK)
	length, e = forme.CheckChain(f, r, api.FormeChain{Pieces: []int{3, 1}, Down: true})
	want(t, "CheckChain", length, e, 2, api.OK)
}

// P7.4, P7.9: the longest chains of made formes are those of the definition, none is longer, and the
// check confirms all chains, and nothing else.
func TestAllChains(t *testing.T) {
	m := newMaker(6)
	for range 400 {
		f := m.forme(9)
		r := m.sizes(f)
		for _, isDown := range []bool{false, true} {
			longest, what := forme.LongestAcross, "LongestAcross"
			if isDown {
				longest, what = forme.LongestDown, "LongestDown"
			}
			chains := chainsOf(f, r, isDown)
			wanted := longestOf(chains)
			length, pieces, e := longest(f, r)
			want(t, what, pieces, e, wanted.pieces, api.OK)
			want(t, what+", the length", length, e, wanted.length, api.OK)
			lengths := map[string]int{}
			for _, c := range chains {
				lengths[joined(c.pieces)] = c.length
				n, e := forme.CheckChain(f, r, api.FormeChain{Pieces: c.pieces, Down: isDown})
				want(t, "CheckChain", n, e, c.length, api.OK)
			}
			for range 30 {
				pieces := m.Perm(len(f.Pieces))[:1+m.Intn(len(f.Pieces))]
				wantError := api.OK
				if lengths[joined(pieces)] == 0 {
					wantError = api.ErrOpen
				}
				n, e := forme.CheckChain(f, r, api.FormeChain{Pieces: pieces, Down: isDown})
				want(t, "CheckChain of any pieces", n, e, lengths[joined(pieces)], wantError)
			}
		}
	}
}

func joined(numbers []int) string {
	s := ""
	for _, n := range numbers {
		s += " " + strconv.Itoa(n)
	}
	return s
}

// P7.4: true sizes fit just if no chain is too long.
func TestWhatFits(t *testing.T) {
	m := newMaker(7)
	counts := map[api.Errno]int{}
	for range 600 {
		f := m.forme(8)
		r := m.sizes(f)
		for i := range r.Widths {
			r.Widths[i] += m.Intn(1 + m.Intn(3))
			r.Heights[i] += m.Intn(1 + m.Intn(2))
		}
		wantError := api.ErrBreak
		if doFit(f, r) {
			wantError = api.OK
		}
		n, e := forme.CheckReal(f, r)
		want(t, "CheckReal", n, e, 0, wantError)
		counts[e]++
	}
	if counts[api.OK] < 50 || counts[api.ErrBreak] < 50 {
		t.Errorf("made sizes have the errors %v", counts)
	}
}
