// Package fount is chapter 1: founts, sorts, cases, metal. See shared/doc/01-fount.md.
package fount

import (
	"cmp"
	"slices"

	"tympan/api"
)

// CheckFount: see the chapter.
func CheckFount(f api.Fount) (int, api.Errno) {
	_, at, e := learn(f)
	return at, e
}

// EmOf: see the chapter.
func EmOf(f api.Fount) (int, api.Errno) {
	if _, e := CheckFount(f); e != api.OK {
		return 0, e
	}
	return emOf(f.Body), api.OK
}

func emOf(body int) int {
	return body * api.PointUnits
}

// PartOf: see the chapter.
func PartOf(f api.Fount, sort int) (api.Frac, api.Errno) {
	if _, e := CheckFount(f); e != api.OK {
		return api.Frac{}, e
	}
	if !hasSort(f, sort) {
		return api.Frac{}, api.ErrMissing
	}
	width, em := f.Sorts[sort].Width, emOf(f.Body)
	d := divisorOf(width, em)
	return api.Frac{Num: width / d, Den: em / d}, api.OK
}

func hasSort(f api.Fount, sort int) bool {
	return sort >= 0 && sort < len(f.Sorts)
}

// divisorOf returns the greatest common divisor of two numbers above 0.
func divisorOf(a, b int) int {
	for b != 0 {
		a, b = b, a%b
	}
	return a
}

// Find: see the chapter.
func Find(f api.Fount, name string) (int, api.Errno) {
	k, _, e := learn(f)
	if e != api.OK {
		return 0, e
	}
	return numberIn(k.names, name)
}

// Printing: see the chapter.
func Printing(f api.Fount, text string) (int, api.Errno) {
	k, _, e := learn(f)
	if e != api.OK {
		return 0, e
	}
	return numberIn(k.texts, text)
}

func numberIn(sorts map[string]int, key string) (int, api.Errno) {
	n, ok := sorts[key]
	if !ok {
		return 0, api.ErrMissing
	}
	return n, api.OK
}

// Spaces: see the chapter.
func Spaces(f api.Fount) ([]int, api.Errno) {
	if _, e := CheckFount(f); e != api.OK {
		return nil, e
	}
	var spaces []int
	for i, s := range f.Sorts {
		if s.Kind == api.SortSpace {
			spaces = append(spaces, i)
		}
	}
	slices.SortStableFunc(spaces, func(a, b int) int {
		return cmp.Compare(f.Sorts[a].Width, f.Sorts[b].Width)
	})
	return spaces, api.OK
}
