package proof

import (
	"slices"

	"tympan/api"
	"tympan/text"
)

// errorOfSorts returns the error of lists of sorts that are compared.
func errorOfSorts(lists ...[]int) api.Errno {
	for _, sorts := range lists {
		if len(sorts) > api.MaxLineSet {
			return api.ErrLarge
		}
	}
	return api.OK
}

// TypeMoves: see the chapter.
func TypeMoves(a, b []int) ([2][]int, api.Errno) {
	if e := errorOfSorts(a, b); e != api.OK {
		return [2][]int{}, e
	}
	return [2][]int{moreIn(a, b), moreIn(b, a)}, api.OK
}

// moreIn returns the sorts that are in a list more often than in another one, each as often as it is
// there more.
func moreIn(sorts, other []int) []int {
	counts := map[int]int{}
	for _, sort := range other {
		counts[sort]++
	}
	var more []int
	for _, sort := range sorts {
		if counts[sort] > 0 {
			counts[sort]--
		} else {
			more = append(more, sort)
		}
	}
	slices.Sort(more)
	return more
}

// Kept: see the chapter.
func Kept(a, b []int) ([][2]int, api.Errno) {
	if e := errorOfSorts(a, b); e != api.OK {
		return nil, e
	}
	most := mostKept(a, b)
	var pairs [][2]int
	i, k := 0, 0
	for most[i][k] > 0 {
		// With an earlier place in b as many sorts can be kept behind it as with a later one.
		at := slices.Index(b[k:], a[i])
		if at >= 0 && most[i+1][k+at+1]+1 == most[i][k] {
			pairs = append(pairs, [2]int{i, k + at})
			k += at + 1
		}
		i++
	}
	return pairs, api.OK
}

// mostKept returns, for each place in a and each place in b, how many sorts from there on can be kept.
func mostKept(a, b []int) [][]int {
	most := make([][]int, len(a)+1)
	for i := range most {
		most[i] = make([]int, len(b)+1)
	}
	for i := len(a) - 1; i >= 0; i-- {
		for k := len(b) - 1; k >= 0; k-- {
			most[i][k] = max(most[i+1][k], most[i][k+1])
			if a[i] == b[k] {
				most[i][k] = most[i+1][k+1] + 1
			}
		}
	}
	return most
}

// FirstChanged: see the chapter.
func FirstChanged(a, b []api.CopyPart) ([2]int, api.Errno) {
	for _, l := range [][]api.CopyPart{a, b} {
		if _, e := text.CheckParts(l); e != api.OK {
			return [2]int{}, e
		}
	}
	for n := range max(len(a), len(b)) {
		if n >= len(a) || n >= len(b) || a[n].Kind != b[n].Kind {
			return [2]int{n, 0}, api.OK
		}
		if w := firstOther(a[n].Words, b[n].Words); w < max(len(a[n].Words), len(b[n].Words)) {
			return [2]int{n, w}, api.OK
		}
	}
	return [2]int{}, api.ErrNone
}

// firstOther returns how many words at the beginning of two lists are the same.
func firstOther(a, b []string) int {
	n := 0
	for n < len(a) && n < len(b) && a[n] == b[n] {
		n++
	}
	return n
}
