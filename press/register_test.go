package press_test

import (
	"fmt"
	"slices"
	"testing"

	"tympan/api"
	"tympan/press"
)

// wrongPins is pins with their error.
type wrongPins struct {
	what string
	l    []api.PressPin
	e    api.Errno
}

func allWrongPins() []wrongPins {
	const far = 1000000
	with := func(p api.PressPin) []api.PressPin { return append(pins(), p) }
	return []wrongPins{
		{"none", nil, api.ErrShape},
		{"one", pins()[:1], api.ErrShape},
		{"one that is wrong", []api.PressPin{pin(2, 1, 0, 0, 0, great)}, api.ErrShape},
		{"nine", slices.Repeat(pins()[:1], 9), api.ErrLarge},
		{"nine that are wrong", slices.Repeat([]api.PressPin{pin(2, 1, 0, 0, 0, great)}, 9), api.ErrLarge},
		{"the least column", with(pin(-far-1, 0, 0, 0, 0, 0)), api.ErrRange},
		{"the greatest column", with(pin(0, far+1, 0, 0, 0, 0)), api.ErrRange},
		{"a column beyond", with(pin(far+1, far+1, 0, 0, 0, 0)), api.ErrRange},
		{"the least row", with(pin(0, 0, -far-1, 0, 0, 0)), api.ErrRange},
		{"the greatest row", with(pin(0, 0, 0, far+1, 0, 0)), api.ErrRange},
		{"the least turn", with(pin(0, 0, 0, 0, -far-1, 0)), api.ErrRange},
		{"the greatest turn", with(pin(0, 0, 0, 0, 0, far+1)), api.ErrRange},
		{"all numbers", with(pin(small, great, small, great, small, great)), api.ErrRange},
		{"an empty column", with(pin(1, 0, 0, 0, 0, 0)), api.ErrOrder},
		{"an empty row", with(pin(0, 0, 6, 5, 0, 0)), api.ErrOrder},
		{"an empty turn", with(pin(0, 0, 0, 0, far, -far)), api.ErrOrder},
		{"an empty column, and a turn beyond", with(pin(1, 0, 0, 0, 0, far+1)), api.ErrRange},
		{"an empty column, then a pin beyond", append(with(pin(1, 0, 0, 0, 0, 0)), pin(great, 0, 0, 0, 0, 0)), api.ErrOrder},
		{"a pin beyond, then an empty column", append(with(pin(0, 0, 0, great, 0, 0)), pin(1, 0, 0, 0, 0, 0)), api.ErrRange},
	}
}

// P9.3: right pins and wrong ones.
func TestCheckPins(t *testing.T) {
	const far = 1000000
	for _, l := range [][]api.PressPin{pins(), slices.Repeat(pins(), 4), {pin(-far, far, -far, far, -far, far), pin(far, far, -far, -far, 0, 0)}} {
		want(t, "CheckPins", 0, press.CheckPins(l), 0, api.OK)
	}
	for _, w := range allWrongPins() {
		want(t, "CheckPins, "+w.what, 0, press.CheckPins(w.l), 0, w.e)
		r, e := press.Offset(w.l, [2]int{-1, -1})
		want(t, "Offset, "+w.what, r, e, [3]api.Range{}, w.e)
		n, e := press.InRegister(w.l, -1)
		want(t, "InRegister, "+w.what, n, e, 0, w.e)
	}
}

// P9.3: offsets.
func TestOffset(t *testing.T) {
	const far = 1000000
	l := append(pins(), pin(-1, 1, 10, 20, -30, -30), pin(-far, far, far, far, -far, -far))
	for _, c := range []struct {
		pair   [2]int
		wanted [3]api.Range
	}{
		{[2]int{0, 1}, [3]api.Range{{Lo: -6, Hi: -3}, {}, {}}},
		{[2]int{1, 0}, [3]api.Range{{Lo: 3, Hi: 6}, {}, {}}},
		{[2]int{0, 2}, [3]api.Range{{Lo: -1, Hi: 3}, {Lo: -20, Hi: -10}, {Lo: 30, Hi: 30}}},
		{[2]int{2, 0}, [3]api.Range{{Lo: -3, Hi: 1}, {Lo: 10, Hi: 20}, {Lo: -30, Hi: -30}}},
		{[2]int{3, 2}, [3]api.Range{{Lo: -far - 1, Hi: far + 1}, {Lo: far - 20, Hi: far - 10}, {Lo: 30 - far, Hi: 30 - far}}},
		{[2]int{0, 0}, [3]api.Range{{Lo: -2, Hi: 2}, {}, {}}},
	} {
		r, e := press.Offset(l, c.pair)
		want(t, fmt.Sprint("Offset ", c.pair), r, e, c.wanted, api.OK)
	}
	for _, pair := range [][2]int{{-1, 0}, {0, -1}, {4, 0}, {0, 4}, {great, small}} {
		r, e := press.Offset(l, pair)
		want(t, fmt.Sprint("Offset ", pair), r, e, [3]api.Range{}, api.ErrMissing)
	}
}

// P9.3: whether colours are in register: the chapter's example, each of the numbers, and each pair.
func TestInRegister(t *testing.T) {
	const no, maybe, yes = api.RegisterNo, api.RegisterMaybe, api.RegisterYes
	row, turn := pin(0, 0, 5, 6, 0, 0), pin(0, 0, 0, 0, 5, 6)
	origin := pin(0, 0, 0, 0, 0, 0)
	for _, c := range []struct {
		what   string
		l      []api.PressPin
		most   int
		wanted int
	}{
		{"example 3", pins(), 6, yes},
		{"example 3", pins(), 5, maybe},
		{"example 3", pins(), 4, maybe},
		{"example 3", pins(), 3, maybe},
		{"example 3", pins(), 2, no},
		{"example 3, the other way round", []api.PressPin{pins()[1], pins()[0]}, 6, yes},
		{"example 3, the other way round", []api.PressPin{pins()[1], pins()[0]}, 3, maybe},
		{"example 3, the other way round", []api.PressPin{pins()[1], pins()[0]}, 2, no},
		{"rows", []api.PressPin{origin, row}, 6, yes},
		{"rows", []api.PressPin{origin, row}, 5, maybe},
		{"rows", []api.PressPin{row, origin}, 4, no},
		{"turns", []api.PressPin{turn, origin}, 6, yes},
		{"turns", []api.PressPin{turn, origin}, 5, maybe},
		{"turns", []api.PressPin{origin, turn}, 4, no},
		{"a maybe, and a no", []api.PressPin{origin, pin(0, 9, 0, 0, 7, 7)}, 6, no},
		{"a no, and a maybe", []api.PressPin{origin, pin(7, 7, 0, 9, 0, 0)}, 6, no},
		{"a wide one", []api.PressPin{origin, pin(-9, 9, 0, 0, 0, 0)}, 8, maybe},
		{"a wide one", []api.PressPin{origin, pin(-9, 9, 0, 0, 0, 0)}, 9, yes},
		{"two alike, wide ones", []api.PressPin{pin(0, 3, 0, 0, 0, 0), pin(0, 3, 0, 0, 0, 0)}, 2, maybe},
		{"two alike, exact ones", []api.PressPin{pin(5, 5, 6, 6, 7, 7), pin(5, 5, 6, 6, 7, 7)}, 0, yes},
		{"one off", []api.PressPin{pin(5, 5, 6, 6, 7, 7), pin(5, 5, 6, 6, 8, 8)}, 0, no},
		{"the last two", []api.PressPin{origin, pin(-3, -3, 0, 0, 0, 0), pin(3, 3, 0, 0, 0, 0)}, 5, no},
		{"the last two", []api.PressPin{origin, pin(-3, -3, 0, 0, 0, 0), pin(3, 3, 0, 0, 0, 0)}, 6, yes},
		{"the first and the last one", []api.PressPin{pin(-3, -3, 0, 0, 0, 0), origin, pin(3, 3, 0, 0, 0, 0)}, 5, no},
		{"as far as can be", []api.PressPin{pin(-1000000, -1000000, 0, 0, 0, 0), pin(1000000, 1000000, 0, 0, 0, 0)}, 1000000, no},
		{"all of it", []api.PressPin{pin(-1000000, 1000000, 0, 0, 0, 0), origin}, 1000000, yes},
		{"eight", slices.Repeat([]api.PressPin{origin}, 8), 0, yes},
	} {
		n, e := press.InRegister(c.l, c.most)
		want(t, fmt.Sprint("InRegister, ", c.what, ", ", c.most), n, e, c.wanted, api.OK)
	}
	for _, most := range []int{-1, 1000001, great, small} {
		n, e := press.InRegister(pins(), most)
		want(t, "InRegister", n, e, 0, api.ErrRange)
	}
}

// agree tells, for all true numbers within enclosures, whether some of them and whether all of them
// agree.
func agree(a, b api.Range, most int) (some, all bool) {
	all = true
	for x := a.Lo; x <= a.Hi; x++ {
		for y := b.Lo; y <= b.Hi; y++ {
			isNear := max(x-y, y-x) <= most
			some, all = some || isNear, all && isNear
		}
	}
	return some, all
}

// P9.3, P9.10: made pins by their true numbers; with a greater tolerance the answer is not less.
func TestMadePins(t *testing.T) {
	m := newMaker(5)
	answers := map[int]int{}
	for range 3000 {
		var l []api.PressPin
		wide, far := m.Intn(5), m.Intn(5)
		enclosure := func() api.Range {
			lo := m.from(-far, far)
			return api.Range{Lo: lo, Hi: lo + m.from(0, wide)}
		}
		for range m.from(2, 4) {
			l = append(l, api.PressPin{Column: enclosure(), Row: enclosure(), Turn: enclosure()})
		}
		before := api.RegisterNo
		for most := range 10 {
			wanted := api.RegisterYes
			for i, p := range l {
				for _, q := range l[i+1:] {
					for _, pair := range [][2]api.Range{{p.Column, q.Column}, {p.Row, q.Row}, {p.Turn, q.Turn}} {
						some, all := agree(pair[0], pair[1], most)
						if !some {
							wanted = api.RegisterNo
						} else if !all {
							wanted = min(wanted, api.RegisterMaybe)
						}
					}
				}
			}
			n, e := press.InRegister(l, most)
			want(t, fmt.Sprint("InRegister ", l, most), n, e, wanted, api.OK)
			if n < before {
				t.Errorf("%v: the answer %d with %d is less than %d", l, n, most, before)
			}
			before = n
			answers[n]++
		}
	}
	if len(answers) != 3 {
		t.Errorf("answers: %v", answers)
	}
}
