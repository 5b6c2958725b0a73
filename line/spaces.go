package line

import (
	"cmp"
	"slices"

	"tympan/api"
)

// space is a space, and how many of it may be taken.
type space struct{ sort, width, most int }

// spacesFor returns the spaces of a fount in the order of the sorts. Of each one there may be taken
// what the case has, but not more than so many, nor than go into the width.
func spacesFor(f api.Fount, counts []int, many, width int) []space {
	var spaces []space
	for sort, s := range f.Sorts {
		if s.Kind == api.SortSpace {
			spaces = append(spaces, space{sort, s.Width, min(counts[sort], many, width/s.Width)})
		}
	}
	return spaces
}

// narrowestFirst returns spaces by their widths, those of one width in their order.
func narrowestFirst(spaces []space) []space {
	return slices.SortedStableFunc(slices.Values(spaces), func(a, b space) int {
		return cmp.Compare(a.width, b.width)
	})
}

// widestFirst returns spaces by their widths, those of one width in their order.
func widestFirst(spaces []space) []space {
	return slices.SortedStableFunc(slices.Values(spaces), func(a, b space) int {
		return cmp.Compare(b.width, a.width)
	})
}

// widthsOf returns for each number of spaces that may be taken, from 0 on, how wide so many of them
// are, at least and at most.
func widthsOf(spaces []space) []api.Range {
	lo, hi := sumsOf(narrowestFirst(spaces)), sumsOf(widestFirst(spaces))
	widths := make([]api.Range, len(lo))
	for number := range widths {
		widths[number] = api.Range{Lo: lo[number], Hi: hi[number]}
	}
	return widths
}

// sumsOf returns how wide none, one, two, .. all of the spaces are, in their order.
func sumsOf(spaces []space) []int {
	sums, sum := []int{0}, 0
	for _, s := range spaces {
		for range s.most {
			sum += s.width
			sums = append(sums, sum)
		}
	}
	return sums
}

// divisorOf returns the greatest common divisor of numbers from 0 on; 0 if there is none above 0.
func divisorOf(numbers ...int) int {
	d := 0
	for _, n := range numbers {
		for n != 0 {
			d, n = n, d%n
		}
	}
	return d
}
