package forme_test

import (
	"slices"
	"testing"

	"tympan/api"
	"tympan/forme"
)

// P7.5: what is held in examples 3 and 4, and how far the quoins are driven.
func TestExamplesOfHolding(t *testing.T) {
	held, e := forme.Held(locked(), lockedReal())
	want(t, "Held", held, e, []int{0, 0, 0, 2, 3}, api.OK)
	loose, e := forme.Loose(locked(), lockedReal())
	want(t, "Loose", loose, e, []int{0, 1, 2}, api.OK)
	r := realWith(func(r *api.FormeReal) { r.Travel[3], r.Travel[4] = 5, 5 })
	driven, e := forme.Driven(locked(), r)
	want(t, "Driven", driven, e, realWith(func(r *api.FormeReal) { r.Widths[3], r.Travel[3], r.Travel[4] = 122, 3, 5 }), api.OK)
	held, e = forme.Held(locked(), driven)
	want(t, "Held behind the driving", held, e, []int{1, 1, 1, 3, 3}, api.OK)
	loose, e = forme.Loose(locked(), driven)
	want(t, "Loose behind the driving", loose, e, nil, api.OK)
	r = realWith(func(r *api.FormeReal) { r.Travel[3] = 1 })
	driven, e = forme.Driven(locked(), r)
	want(t, "Driven not far enough", driven, e, realWith(func(r *api.FormeReal) { r.Widths[3] = 121 }), api.OK)
	driven, e = forme.Driven(locked(), lockedReal())
	want(t, "Driven without any way", driven, e, lockedReal(), api.OK)
}

// P7.5: quoins are driven in the order of the pieces, each one in its direction alone.
func TestDrivenInOrder(t *testing.T) {
	across := formeOf(4, 1, quoinAcross("b", 2, 0, 2, 1), quoinAcross("a", 0, 0, 2, 1))
	driven, e := forme.Driven(across, api.FormeReal{Widths: []int{115, 117}, Heights: []int{50, 60}, Travel: []int{5, 5}})
	want(t, "Driven across", driven, e, api.FormeReal{Widths: []int{120, 120}, Heights: []int{50, 60}, Travel: []int{0, 2}}, api.OK)
	driven, e = forme.Driven(across, api.FormeReal{Widths: []int{115, 117}, Heights: []int{50, 60}, Travel: []int{6000, 6000}})
	want(t, "Driven across, the first one alone", driven, e, api.FormeReal{Widths: []int{123, 117}, Heights: []int{50, 60}, Travel: []int{5992, 6000}}, api.OK)
	down := formeOf(1, 4, quoinDown("b", 0, 2, 1, 2), quoinDown("a", 0, 0, 1, 2))
	driven, e = forme.Driven(down, api.FormeReal{Widths: []int{50, 60}, Heights: []int{115, 117}, Travel: []int{5, 6}})
	want(t, "Driven down", driven, e, api.FormeReal{Widths: []int{50, 60}, Heights: []int{120, 120}, Travel: []int{0, 3}}, api.OK)
	one := realOf(7, 8, 6000)
	driven, e = forme.Driven(oneQuoin(api.PieceQuoinAcross), one)
	want(t, "Driven across as far as it may be", driven, e, realOf(6007, 8, 0), api.OK)
	one = realOf(7, 8, 6000)
	driven, e = forme.Driven(oneQuoin(api.PieceQuoinDown), one)
	want(t, "Driven down as far as there is room", driven, e, realOf(7, 6000, 8), api.OK)
}

// P7.5: without errors of the true sizes nothing is held, hangs loose or is driven.
func TestErrorsOfHolding(t *testing.T) {
	for _, c := range wrongReals() {
		held, e := forme.Held(c.f, c.r)
		want(t, "Held, "+c.what, held, e, nil, c.e)
		loose, e := forme.Loose(c.f, c.r)
		want(t, "Loose, "+c.what, loose, e, nil, c.e)
		driven, e := forme.Driven(c.f, c.r)
		want(t, "Driven, "+c.what, driven, e, api.FormeReal{}, c.e)
	}
}

// drivenOf is true sizes behind the driving, by the definition: each quoin is driven by steps of a
// unit while the sizes fit.
func drivenOf(f api.Forme, r api.FormeReal) api.FormeReal {
	r = api.FormeReal{Widths: slices.Clone(r.Widths), Heights: slices.Clone(r.Heights), Travel: slices.Clone(r.Travel)}
	for i, p := range f.Pieces {
		sizes := r.Widths
		if p.Kind == api.PieceQuoinDown {
			sizes = r.Heights
		}
		for r.Travel[i] > 0 {
			sizes[i]++
			if !doFit(f, r) {
				sizes[i]--
				break
			}
			r.Travel[i]--
		}
	}
	return r
}

// P7.5, P7.9: what is held and driven in made formes is so by the definition; behind the driving the
// sizes fit, each quoin has no way left or is held where it presses, what was held stays held, and
// driven once more nothing changes.
func TestAllHolding(t *testing.T) {
	m := newMaker(8)
	counts := map[int]int{}
	for range 500 {
		f, r := m.right(8)
		if !doFit(f, r) {
			continue
		}
		held, e := forme.Held(f, r)
		want(t, "Held", held, e, heldOf(f, r), api.OK)
		var wanted []int
		for i, h := range held {
			counts[h]++
			if h == 0 {
				wanted = append(wanted, i)
			}
		}
		loose, e := forme.Loose(f, r)
		want(t, "Loose", loose, e, wanted, api.OK)
		driven, e := forme.Driven(f, r)
		want(t, "Driven", driven, e, drivenOf(f, r), api.OK)
		checkDriven(t, f, driven, held)
	}
	for h := range 4 {
		if counts[h] < 50 {
			t.Errorf("pieces that are held: %v", counts)
		}
	}
}

// checkDriven looks at true sizes behind the driving.
func checkDriven(t *testing.T, f api.Forme, driven api.FormeReal, held []int) {
	t.Helper()
	n, e := forme.CheckReal(f, driven)
	want(t, "CheckReal behind the driving", n, e, 0, api.OK)
	again, e := forme.Driven(f, driven)
	want(t, "Driven once more", again, e, driven, api.OK)
	now, _ := forme.Held(f, driven)
	for i, p := range f.Pieces {
		if now[i]&held[i] != held[i] {
			t.Errorf("%v of %v was held, and is so no more", p, f)
		}
		presses := 1
		if p.Kind == api.PieceQuoinDown {
			presses = 2
		}
		if driven.Travel[i] > 0 && now[i]&presses == 0 {
			t.Errorf("%v of %v could be driven further", p, f)
		}
	}
}
