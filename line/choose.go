package line

import (
	"cmp"
	"slices"

	"tympan/api"
)

// Choose: see the chapter.
func Choose(t api.LineTask) ([]int, api.Errno) {
	r, e := roomOf(t)
	if e != api.OK {
		return nil, e
	}
	return r.choose(t.Fount)
}

func (r room) choose(f api.Fount) ([]int, api.Errno) {
	return fewest(f, r.left, r.gapSpaces(), r.fill)
}

// Fill: see the chapter.
func Fill(f api.Fount, counts []int, width int) ([]int, api.Errno) {
	if e := errorOfCase(f, counts); e != api.OK {
		return nil, e
	}
	if width < 0 || width > api.MaxLineFill {
		return nil, api.ErrRange
	}
	return fewest(f, counts, api.Range{Lo: 0, Hi: api.MaxEndSpaces}, width)
}

// fewest returns how many spaces of each sort make a width: as few as possible, but so many as the
// range says, of several such counts the lexicographically first ones; or ErrNone.
func fewest(f api.Fount, counts []int, many api.Range, width int) ([]int, api.Errno) {
	spaces := spacesFor(f, counts, many.Hi, width)
	all := makerOf(spaces)
	for number := many.Lo; number <= many.Hi; number++ {
		if all.canMake(want{number: number, width: width}) {
			return first(spaces, len(f.Sorts), want{number: number, width: width}), api.OK
		}
	}
	return nil, api.ErrNone
}

// first returns the lexicographically first counts of sorts for what can be made of these spaces.
func first(spaces []space, sorts int, w want) []int {
	counts := make([]int, sorts)
	for i, s := range spaces {
		rest := makerOf(spaces[i+1:])
		for count := range s.most + 1 {
			if next := w.without(count, s); rest.canMake(next) {
				counts[s.sort], w = count, next
				break
			}
		}
	}
	return counts
}

// want is so many spaces that are so wide together, of those of a maker from one on.
type want struct{ from, number, width int }

// without is what is wanted beside so many of a space.
func (w want) without(count int, s space) want {
	return want{from: w.from, number: w.number - count, width: w.width - count*s.width}
}

// maker tells what can be made of spaces. Those of which there are few come first: the others can
// often make all that their widths and their step allow, so that not much is tried in vain.
type maker struct {
	spaces []space
	// widths and steps are those of the spaces from each one on, and of none.
	widths [][]api.Range
	steps  []int
	// cannot has what has been found out not to be possible.
	cannot map[want]bool
}

func makerOf(spaces []space) maker {
	m := maker{cannot: map[want]bool{}}
	m.spaces = slices.SortedStableFunc(slices.Values(spaces), func(a, b space) int {
		return cmp.Compare(a.most, b.most)
	})
	for from := range len(spaces) + 1 {
		m.widths = append(m.widths, widthsOf(m.spaces[from:]))
		m.steps = append(m.steps, stepOf(m.spaces[from:]))
	}
	return m
}

// stepOf returns a number by a multiple of which the widths of equally many of the spaces differ.
func stepOf(spaces []space) int {
	step := 0
	for _, s := range spaces {
		step = divisorOf(step, max(s.width-spaces[0].width, spaces[0].width-s.width))
	}
	return step
}

func (m maker) canMake(w want) bool {
	if !m.mayMake(w) || m.cannot[w] {
		return false
	}
	if w.from == len(m.spaces) {
		return true
	}
	s := m.spaces[w.from]
	for count := range min(s.most, w.number) + 1 {
		next := w.without(count, s)
		next.from++
		if m.canMake(next) {
			return true
		}
	}
	m.cannot[w] = true
	return false
}

// mayMake tells whether the number, the width and the step of the spaces allow what is wanted; if
// there are no spaces from there on, this is nothing alone.
func (m maker) mayMake(w want) bool {
	widths, step := m.widths[w.from], m.steps[w.from]
	if w.number < 0 || w.number >= len(widths) {
		return false
	}
	if w.width < widths[w.number].Lo || w.width > widths[w.number].Hi {
		return false
	}
	// Without a step all spaces are equally wide, or there are none.
	return step == 0 || (w.width-w.number*m.spaces[w.from].width)%step == 0
}
