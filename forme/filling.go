package forme

import (
	"iter"

	"tympan/api"
)

// The most pieces of a size in a stock.
const maxFurnitureCount = 100

// errorOfStock tells what is wrong with a stock, and with a length that is to be filled from it.
func errorOfStock(stock []api.Furniture, length int) api.Errno {
	if len(stock) > api.MaxFurniture {
		return api.ErrLarge
	}
	for i, x := range stock {
		if !isFrom(1, api.MaxFill, x.Size) || !isFrom(0, maxFurnitureCount, x.Count) {
			return api.ErrRange
		}
		if i > 0 && x.Size <= stock[i-1].Size {
			return api.ErrOrder
		}
	}
	if !isFrom(0, api.MaxFill, length) {
		return api.ErrRange
	}
	return api.OK
}

// takings yields how many pieces of a size may be taken for a length, and what is left of it then.
func takings(x api.Furniture, length int) iter.Seq2[int, int] {
	return func(yield func(count, left int) bool) {
		for count := range x.Count + 1 {
			left := length - count*x.Size
			if left < 0 || !yield(count, left) {
				return
			}
		}
	}
}

// firstLabels returns what the numbers of row 0 are at most.
func firstLabels(length int) []int {
	row := make([]int, length+1)
	for r := 1; r <= length; r++ {
		row[r] = api.NoFill
	}
	return row
}

// nextLabels returns what the numbers of a row are at most, from the row before and the size between.
func nextLabels(before []int, x api.Furniture) []int {
	row := make([]int, len(before))
	for length := range row {
		row[length] = api.NoFill
		for count, left := range takings(x, length) {
			row[length] = min(row[length], before[left]+count)
		}
	}
	return row
}

// FillLength: see the chapter.
func FillLength(stock []api.Furniture, length int) ([]int, [][]int, api.Errno) {
	if e := errorOfStock(stock, length); e != api.OK {
		return nil, nil, e
	}
	labels := [][]int{firstLabels(length)}
	for k, x := range stock {
		labels = append(labels, nextLabels(labels[k], x))
	}
	if labels[len(stock)][length] == api.NoFill {
		return nil, labels, api.ErrNone
	}
	return fillingBy(stock, length, labels), labels, api.OK
}

// fillingBy returns a filling that has as many pieces as the greatest right labels of its length say.
func fillingBy(stock []api.Furniture, length int, labels [][]int) []int {
	counts := make([]int, len(stock))
	for k := len(stock) - 1; k >= 0; k-- {
		for count, left := range takings(stock[k], length) {
			if labels[k][left]+count == labels[k+1][length] {
				counts[k], length = count, left
				break
			}
		}
	}
	return counts
}

// CheckFilling: see the chapter.
func CheckFilling(stock []api.Furniture, length int, counts []int) (int, api.Errno) {
	if e := errorOfStock(stock, length); e != api.OK {
		return 0, e
	}
	if !haveLength(len(stock), counts) {
		return 0, api.ErrShape
	}
	sum := 0
	for i, x := range stock {
		if !isFrom(0, x.Count, counts[i]) {
			return 0, api.ErrStock
		}
		sum += counts[i] * x.Size
	}
	if sum != length {
		return 0, api.ErrSum
	}
	return sumOf(counts), api.OK
}

// CheckFillLabels: see the chapter.
func CheckFillLabels(stock []api.Furniture, length int, labels [][]int) (int, api.Errno) {
	if e := errorOfStock(stock, length); e != api.OK {
		return 0, e
	}
	if len(labels) != len(stock)+1 || !haveLength(length+1, labels...) {
		return 0, api.ErrShape
	}
	most := firstLabels(length)
	for k, row := range labels {
		if k > 0 {
			most = nextLabels(labels[k-1], stock[k-1])
		}
		if e := errorOfLabels(row, most); e != api.OK {
			return 0, e
		}
	}
	return labels[len(stock)][length], api.OK
}

// errorOfLabels tells what is wrong with a row, the numbers of which may be at most so great.
func errorOfLabels(row, most []int) api.Errno {
	for r, n := range row {
		if !isFrom(0, api.NoFill, n) {
			return api.ErrRange
		}
		if n > most[r] {
			return api.ErrProof
		}
	}
	return api.OK
}
