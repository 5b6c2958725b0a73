package fount

import "tympan/api"

// CheckCase: see the chapter.
func CheckCase(f api.Fount, counts []int) api.Errno {
	return errorOfCounts(f, counts)
}

// errorOfCounts returns the error of a fount, or the first one of any number of cases and needs.
func errorOfCounts(f api.Fount, lists ...[]int) api.Errno {
	if _, e := CheckFount(f); e != api.OK {
		return e
	}
	for _, counts := range lists {
		if len(counts) != len(f.Sorts) {
			return api.ErrShape
		}
		for _, n := range counts {
			if n < 0 || n > api.MaxCount {
				return api.ErrRange
			}
		}
	}
	return api.OK
}

// Joined: see the chapter.
func Joined(f api.Fount, a, b []int) ([]int, api.Errno) {
	if e := errorOfCounts(f, a, b); e != api.OK {
		return nil, e
	}
	sums := make([]int, len(a))
	for i := range sums {
		sums[i] = a[i] + b[i]
		if sums[i] > api.MaxCount {
			return nil, api.ErrLarge
		}
	}
	return sums, api.OK
}

// Taken: see the chapter.
func Taken(f api.Fount, counts, need []int) ([]int, int, api.Errno) {
	if e := errorOfCounts(f, counts, need); e != api.OK {
		return nil, 0, e
	}
	left := make([]int, len(counts))
	for i := range left {
		if counts[i] < need[i] {
			return nil, i, api.ErrStock
		}
		left[i] = counts[i] - need[i]
	}
	return left, 0, api.OK
}

// Lacking: see the chapter.
func Lacking(f api.Fount, counts, need []int) ([]int, api.Errno) {
	if e := errorOfCounts(f, counts, need); e != api.OK {
		return nil, e
	}
	lacking := make([]int, len(counts))
	for i := range lacking {
		lacking[i] = max(need[i]-counts[i], 0)
	}
	return lacking, api.OK
}

// Times: see the chapter.
func Times(f api.Fount, counts, need []int) (int, int, api.Errno) {
	if e := errorOfCounts(f, counts, need); e != api.OK {
		return 0, 0, e
	}
	times, stop := -1, 0
	for i, n := range need {
		if n == 0 {
			continue
		}
		if t := counts[i] / n; times < 0 || t < times {
			times, stop = t, i
		}
	}
	if times < 0 {
		return 0, 0, api.ErrZero
	}
	return times, stop, api.OK
}

// Enough: see the chapter.
func Enough(f api.Fount, needs [][]int) ([]int, api.Errno) {
	if _, e := CheckFount(f); e != api.OK {
		return nil, e
	}
	if len(needs) > api.MaxNeeds {
		return nil, api.ErrLarge
	}
	if e := errorOfCounts(f, needs...); e != api.OK {
		return nil, e
	}
	enough := make([]int, len(f.Sorts))
	for _, need := range needs {
		for i, n := range need {
			enough[i] = max(enough[i], n)
		}
	}
	return enough, api.OK
}
