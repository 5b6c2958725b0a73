package page

import (
	"iter"
	"slices"

	"tympan/api"
	"tympan/fount"
)

// NeedOf: see the chapter.
func NeedOf(f api.Fount, lines []api.TypeLine) ([]int, api.Errno) {
	if _, e := fount.CheckFount(f); e != api.OK {
		return nil, e
	}
	if e := errorOfLines(f, lines); e != api.OK {
		return nil, e
	}
	needs := make([]int, len(f.Sorts))
	for _, l := range lines {
		for _, sort := range l.Sorts {
			needs[sort]++
		}
	}
	return needs, api.OK
}

func errorOfLines(f api.Fount, lines []api.TypeLine) api.Errno {
	if len(lines) > api.MaxPageLines {
		return api.ErrLarge
	}
	for _, l := range lines {
		if _, e := fount.NeedOf(f, l.Sorts); e != api.OK {
			return e
		}
	}
	return api.OK
}

// Turned: see the chapter.
func Turned(f api.Fount, counts []int, lines []api.TypeLine) ([][2]int, api.Errno) {
	if e := fount.CheckCase(f, counts); e != api.OK {
		return nil, e
	}
	if e := errorOfLines(f, lines); e != api.OK {
		return nil, e
	}
	left := slices.Clone(counts)
	var places [][2]int
	for number, l := range lines {
		for at, sort := range l.Sorts {
			if left[sort] == 0 {
				places = append(places, [2]int{number, at})
			} else {
				left[sort]--
			}
		}
	}
	return places, api.OK
}

// Stands: see the chapter.
func Stands(f api.Fount, s api.PageStand, set []int) (int, api.Errno) {
	if e := errorOfStand(f, s); e != api.OK {
		return 0, e
	}
	if e := errorOfSet(s, set); e != api.OK {
		return 0, e
	}
	if sort, lacks := lackingFor(s, set); lacks {
		return sort, api.ErrStock
	}
	return len(set), api.OK
}

// MostStanding: see the chapter.
func MostStanding(f api.Fount, s api.PageStand) ([]int, api.Errno) {
	if e := errorOfStand(f, s); e != api.OK {
		return nil, e
	}
	for size := len(s.Needs); size > 0; size-- {
		for set := range setsOf(size, len(s.Needs)) {
			if _, lacks := lackingFor(s, set); !lacks {
				return set, api.OK
			}
		}
	}
	return nil, api.OK
}

// Excluding: see the chapter.
func Excluding(f api.Fount, s api.PageStand) ([]int, int, api.Errno) {
	if e := errorOfStand(f, s); e != api.OK {
		return nil, 0, e
	}
	for size := range len(s.Needs) + 1 {
		for set := range setsOf(size, len(s.Needs)) {
			// All lesser sets have been found to stand, so that this one excludes itself.
			if sort, lacks := lackingFor(s, set); lacks {
				return set, sort, api.OK
			}
		}
	}
	return nil, 0, api.ErrNone
}

// CheckExcluding: see the chapter.
func CheckExcluding(f api.Fount, s api.PageStand, set []int) (int, api.Errno) {
	if e := errorOfStand(f, s); e != api.OK {
		return 0, e
	}
	if e := errorOfSet(s, set); e != api.OK {
		return 0, e
	}
	sort, lacks := lackingFor(s, set)
	if !lacks {
		return 0, api.ErrProof
	}
	for i := range set {
		if _, lacks := lackingFor(s, slices.Concat(set[:i], set[i+1:])); lacks {
			return 0, api.ErrClash
		}
	}
	return sort, api.OK
}

func errorOfStand(f api.Fount, s api.PageStand) api.Errno {
	if e := fount.CheckCase(f, s.Case); e != api.OK {
		return e
	}
	if len(s.Needs) > api.MaxStanding {
		return api.ErrLarge
	}
	for _, need := range s.Needs {
		if e := fount.CheckCase(f, need); e != api.OK {
			return e
		}
	}
	return api.OK
}

func errorOfSet(s api.PageStand, set []int) api.Errno {
	for _, page := range set {
		if !isFrom(0, len(s.Needs)-1, page) {
			return api.ErrMissing
		}
	}
	last := -1
	for _, page := range set {
		if page <= last {
			return api.ErrOrder
		}
		last = page
	}
	return api.OK
}

// lackingFor returns the first sort of which a case has not enough for all pages of a set, and whether
// there is one.
func lackingFor(s api.PageStand, set []int) (int, bool) {
	for sort, count := range s.Case {
		for _, page := range set {
			count -= s.Needs[page][sort]
		}
		if count < 0 {
			return sort, true
		}
	}
	return 0, false
}

// setsOf yields the sets of so many of the pages from 0 on, in lexicographic order.
func setsOf(size, pages int) iter.Seq[[]int] {
	return func(yield func([]int) bool) {
		yieldSets(nil, 0, size, pages, yield)
	}
}

// yieldSets yields all sets that go on from the given one with so many more of the pages from next on,
// and tells whether more sets are wanted.
func yieldSets(set []int, next, more, pages int, yield func([]int) bool) bool {
	if more == 0 {
		return yield(set)
	}
	for page := next; page <= pages-more; page++ {
		// Without room behind it, the set is copied, so that none that goes on from it shares memory
		// with another one.
		longer := append(set[:len(set):len(set)], page)
		if !yieldSets(longer, page+1, more-1, pages, yield) {
			return false
		}
	}
	return true
}
