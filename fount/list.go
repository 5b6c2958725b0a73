package fount

import (
	"strings"

	"tympan/api"
)

// WidthOf: see the chapter.
func WidthOf(f api.Fount, sorts []int) (int, api.Errno) {
	if e := errorOfList(f, sorts); e != api.OK {
		return 0, e
	}
	width := 0
	for _, n := range sorts {
		width += f.Sorts[n].Width
	}
	return width, api.OK
}

// TextOf: see the chapter.
func TextOf(f api.Fount, sorts []int) (string, api.Errno) {
	if e := errorOfList(f, sorts); e != api.OK {
		return "", e
	}
	var b strings.Builder
	behindSpace := false
	for _, n := range sorts {
		isSpace := f.Sorts[n].Kind == api.SortSpace
		if isSpace && !behindSpace {
			b.WriteByte(' ')
		}
		b.WriteString(f.Sorts[n].Text)
		behindSpace = isSpace
	}
	return b.String(), api.OK
}

// NeedOf: see the chapter.
func NeedOf(f api.Fount, sorts []int) ([]int, api.Errno) {
	if e := errorOfList(f, sorts); e != api.OK {
		return nil, e
	}
	need := make([]int, len(f.Sorts))
	for _, n := range sorts {
		need[n]++
	}
	return need, api.OK
}

// errorOfList returns the error of a fount and of a list of its sorts.
func errorOfList(f api.Fount, sorts []int) api.Errno {
	if _, e := CheckFount(f); e != api.OK {
		return e
	}
	if len(sorts) > api.MaxSet {
		return api.ErrLarge
	}
	for _, n := range sorts {
		if !hasSort(f, n) {
			return api.ErrMissing
		}
	}
	return api.OK
}
