package forme_test

import (
	"slices"
	"strconv"
	"testing"

	"tympan/api"
	"tympan/forme"
)

// no is the label of a length that cannot be filled.
const no = api.NoFill

// stockOf is a stock of sizes and how many there are of each, one behind the other.
func stockOf(numbers ...int) []api.Furniture {
	var stock []api.Furniture
	for i := 0; i < len(numbers); i += 2 {
		stock = append(stock, api.Furniture{Size: numbers[i], Count: numbers[i+1]})
	}
	return stock
}

// sizes is a stock of so many sizes from 1 on.
func sizes(n int) []api.Furniture {
	var stock []api.Furniture
	for i := range n {
		stock = append(stock, api.Furniture{Size: i + 1, Count: 1})
	}
	return stock
}

// wrongStock is a stock and a length with their error.
type wrongStock struct {
	what   string
	stock  []api.Furniture
	length int
	e      api.Errno
}

func wrongStocks() []wrongStock {
	return []wrongStock{
		{"13 sizes", sizes(13), -1, api.ErrLarge},
		{"13 wrong sizes", make([]api.Furniture, 13), 7, api.ErrLarge},
		{"the size 0", stockOf(0, 3), 7, api.ErrRange},
		{"the size -1", stockOf(2, 3, -1, 1), 7, api.ErrRange},
		{"the size 301", stockOf(301, 1), 7, api.ErrRange},
		{"the greatest size", stockOf(1, 1, great, 1), 7, api.ErrRange},
		{"the least size", stockOf(small, 1), 7, api.ErrRange},
		{"-1 of a size", stockOf(2, -1, 2, 3), 7, api.ErrRange},
		{"101 of a size", stockOf(2, 3, 5, 101), 7, api.ErrRange},
		{"the greatest count", stockOf(2, great), 7, api.ErrRange},
		{"the least count", stockOf(2, small), 7, api.ErrRange},
		{"a size twice", stockOf(2, 1, 5, 1, 5, 1, 0, 1), 301, api.ErrOrder},
		{"sizes that descend", stockOf(5, 1, 2, 1), 301, api.ErrOrder},
		{"an order ahead of a later range", stockOf(5, 1, 2, 1, 301, 1), 7, api.ErrOrder},
		{"a range ahead of the order", stockOf(5, 1, 2, 101), 7, api.ErrRange},
		{"the length -1", stockOf(2, 3, 5, 1), -1, api.ErrRange},
		{"the length 301", stockOf(2, 3, 5, 1), 301, api.ErrRange},
		{"the greatest length", stockOf(1, 1), great, api.ErrRange},
		{"the least length", nil, small, api.ErrRange},
	}
}

// P7.6: what is wrong with a stock, or a length.
func TestWrongStocks(t *testing.T) {
	for _, c := range wrongStocks() {
		counts, labels, e := forme.FillLength(c.stock, c.length)
		want(t, "FillLength, "+c.what, counts, e, nil, c.e)
		want(t, "its labels, "+c.what, labels, e, nil, c.e)
		n, e := forme.CheckFilling(c.stock, c.length, []int{-1})
		want(t, "CheckFilling, "+c.what, n, e, 0, c.e)
		n, e = forme.CheckFillLabels(c.stock, c.length, [][]int{{-1}})
		want(t, "CheckFillLabels, "+c.what, n, e, 0, c.e)
	}
}

// P7.6: fillings that are right, and what is wrong with others.
func TestFillings(t *testing.T) {
	stock := stockOf(2, 3, 5, 1)
	for _, c := range []struct {
		stock  []api.Furniture
		length int
		counts []int
		pieces int
		e      api.Errno
	}{
		{stock, 7, []int{1, 1}, 2, api.OK},
		{stock, 9, []int{2, 1}, 3, api.OK},
		{stock, 0, []int{0, 0}, 0, api.OK},
		{stock, 6, []int{3, 0}, 3, api.OK},
		{nil, 0, nil, 0, api.OK},
		{stockOf(1, 100), 100, []int{100}, 100, api.OK},
		{stockOf(1, 100, 2, 100), 300, []int{100, 100}, 200, api.OK},
		{stockOf(300, 100), 300, []int{1}, 1, api.OK},
		{stockOf(3, 0, 4, 1), 4, []int{0, 1}, 1, api.OK},
		{stock, 7, nil, 0, api.ErrShape},
		{stock, 7, []int{-1}, 0, api.ErrShape},
		{stock, 7, []int{1, 1, 0}, 0, api.ErrShape},
		{nil, 7, []int{0}, 0, api.ErrShape},
		{stock, 7, []int{-1, 2}, 0, api.ErrStock},
		{stock, 8, []int{4, 0}, 0, api.ErrStock},
		{stock, 10, []int{0, 2}, 0, api.ErrStock},
		{stock, 3, []int{-1, 1}, 0, api.ErrStock},
		{stock, 7, []int{great, 1}, 0, api.ErrStock},
		{stock, 7, []int{1, small}, 0, api.ErrStock},
		{stockOf(3, 0, 4, 1), 3, []int{1, 0}, 0, api.ErrStock},
		{stock, 7, []int{0, 1}, 0, api.ErrSum},
		{stock, 7, []int{2, 1}, 0, api.ErrSum},
		{stock, 8, []int{3, 1}, 0, api.ErrSum},
		{stock, 8, []int{1, 1}, 0, api.ErrSum},
		{nil, 7, nil, 0, api.ErrSum},
		{stockOf(300, 100), 300, []int{100}, 0, api.ErrSum},
	} {
		n, e := forme.CheckFilling(c.stock, c.length, c.counts)
		want(t, "CheckFilling", n, e, c.pieces, c.e)
	}
}

// P7.6: labels that are right, and what is wrong with others, mostly with a later error, too.
func TestFillLabels(t *testing.T) {
	two, both := stockOf(2, 1), stockOf(1, 2, 2, 1)
	for i, c := range []struct {
		stock  []api.Furniture
		length int
		labels [][]int
		bound  int
		e      api.Errno
	}{
		{two, 2, [][]int{{0, no, no}, {0, no, 1}}, 1, api.OK},
		{two, 2, [][]int{{0, no, no}, {0, 0, 0}}, 0, api.OK},
		{two, 2, [][]int{{0, 5, 7}, {0, 5, 1}}, 1, api.OK},
		{two, 2, [][]int{{0, 5, 0}, {0, 5, 0}}, 0, api.OK},
		{two, 3, [][]int{{0, no, no, no}, {0, no, 1, no}}, no, api.OK},
		{two, 3, [][]int{{0, 4, no, no}, {0, 4, 1, 5}}, 5, api.OK},
		{two, 4, [][]int{{0, no, no, no, no}, {0, no, 1, no, no}}, no, api.OK},
		{both, 2, [][]int{{0, no, no}, {0, 1, 2}, {0, 1, 1}}, 1, api.OK},
		{both, 2, [][]int{{0, no, no}, {0, 0, 2}, {0, 0, 1}}, 1, api.OK},
		{nil, 0, [][]int{{0}}, 0, api.OK},
		{nil, 2, [][]int{{0, no, no}}, no, api.OK},
		{nil, 2, [][]int{{0, 3, 7}}, 7, api.OK},
		{both, 0, [][]int{{0}, {0}, {0}}, 0, api.OK},
		{two, 2, nil, 0, api.ErrShape},
		{two, 2, [][]int{{-1, no, no}}, 0, api.ErrShape},
		{two, 2, [][]int{{1, no, no}, {0, no, 1}, {0, no, 1}}, 0, api.ErrShape},
		{two, 2, [][]int{{1, -1, no}, {0, no}}, 0, api.ErrShape},
		{two, 2, [][]int{{1, -1, no}, {0, no, 1, no}}, 0, api.ErrShape},
		{two, 2, [][]int{{0, no}, {0, no, 1}}, 0, api.ErrShape},
		{two, 2, [][]int{{}, {}}, 0, api.ErrShape},
		{nil, 0, [][]int{{}}, 0, api.ErrShape},
		{two, 2, [][]int{{-1, no, no}, {0, no, 2}}, 0, api.ErrRange},
		{two, 2, [][]int{{0, no + 1, no}, {1, no, 1}}, 0, api.ErrRange},
		{two, 2, [][]int{{no + 1, no, no}, {0, no, 1}}, 0, api.ErrRange},
		{two, 2, [][]int{{0, no, great}, {0, no, 2}}, 0, api.ErrRange},
		{two, 2, [][]int{{0, no, no}, {0, small, 2}}, 0, api.ErrRange},
		{two, 2, [][]int{{0, no, no}, {0, no, no + 1}}, 0, api.ErrRange},
		{two, 2, [][]int{{0, no, no}, {0, no, -1}}, 0, api.ErrRange},
		{two, 2, [][]int{{1, no, no + 1}, {0, no, 1}}, 0, api.ErrProof},
		{two, 2, [][]int{{no, no, no}, {0, no, 1}}, 0, api.ErrProof},
		{two, 2, [][]int{{0, no, no}, {1, no, -1}}, 0, api.ErrProof},
		{two, 2, [][]int{{0, no, no}, {0, no, 2}}, 0, api.ErrProof},
		{two, 2, [][]int{{0, 5, 0}, {0, 6, 0}}, 0, api.ErrProof},
		{two, 2, [][]int{{0, 5, 0}, {0, 5, 1}}, 0, api.ErrProof},
		{two, 3, [][]int{{0, 4, no, no}, {0, 4, 1, 6}}, 0, api.ErrProof},
		{both, 2, [][]int{{0, no, no}, {0, 1, 2}, {0, 1, 2}}, 0, api.ErrProof},
		{both, 2, [][]int{{0, no, no}, {0, 1, 3}, {0, 1, -1}}, 0, api.ErrProof},
	} {
		bound, e := forme.CheckFillLabels(c.stock, c.length, c.labels)
		want(t, "CheckFillLabels, number "+strconv.Itoa(i), bound, e, c.bound, c.e)
	}
}

// P7.6: the lengths of example 5, and others that are plain.
func TestFilledLengths(t *testing.T) {
	stock := stockOf(2, 3, 5, 1)
	for _, c := range []struct {
		stock  []api.Furniture
		length int
		pieces int
	}{
		{stock, 0, 0}, {stock, 1, no}, {stock, 2, 1}, {stock, 3, no}, {stock, 4, 2}, {stock, 5, 1}, {stock, 6, 3}, {stock, 7, 2}, {stock, 8, no}, {stock, 9, 3},
		{stock, 10, no}, {stock, 11, 4}, {stock, 12, no}, {stock, 300, no},
		{nil, 0, 0}, {nil, 1, no}, {nil, 300, no},
		{stockOf(3, 0), 3, no}, {stockOf(3, 0), 0, 0},
		// the greatest size first does not do it, or takes more pieces
		{stockOf(3, 2, 4, 1), 6, 2}, {stockOf(1, 9, 4, 9, 6, 9), 8, 2}, {stockOf(1, 100, 10, 1, 25, 9), 30, 6}, {stockOf(1, 100, 10, 3, 25, 9), 30, 3},
		{stockOf(1, 100), 100, 100}, {stockOf(1, 100), 101, no}, {stockOf(1, 100, 2, 100), 300, 200}, {stockOf(1, 100, 2, 100, 300, 1), 300, 1},
		{sizes(12), 78, 12}, {sizes(12), 77, 11}, {sizes(12), 79, no}, {sizes(12), 12, 1}, {stockOf(300, 1), 300, 1}, {stockOf(299, 1, 300, 0), 300, no},
	} {
		checkFill(t, c.stock, c.length, c.pieces)
	}
	labels := [][]int{{0, no, no}, {0, no, 1}}
	_, got, e := forme.FillLength(stockOf(2, 3), 2)
	want(t, "the labels of the length 2", got, e, labels, api.OK)
}

// checkFill fills a length, and looks at the filling and at the labels.
func checkFill(t *testing.T, stock []api.Furniture, length, pieces int) {
	t.Helper()
	counts, labels, e := forme.FillLength(stock, length)
	bound, labelError := forme.CheckFillLabels(stock, length, labels)
	want(t, "the bound", bound, labelError, pieces, api.OK)
	if pieces == no {
		want(t, "FillLength", counts, e, nil, api.ErrNone)
		return
	}
	n, fillingError := forme.CheckFilling(stock, length, counts)
	want(t, "the pieces", n, fillingError, pieces, api.OK)
	if e != api.OK || len(counts) != len(stock) {
		t.Errorf("FillLength of %v, %d: %v, error %d", stock, length, counts, e)
	}
}

// fewest is the number of pieces of a filling with the fewest of them, found by trying all.
func fewest(stock []api.Furniture, length int) int {
	if len(stock) == 0 {
		if length == 0 {
			return 0
		}
		return no
	}
	least := no
	for j := 0; j <= stock[0].Count && j*stock[0].Size <= length; j++ {
		least = min(least, j+fewest(stock[1:], length-j*stock[0].Size))
	}
	return least
}

// stock makes a stock of small sizes.
func (m maker) stock() []api.Furniture {
	var stock []api.Furniture
	size := 0
	for range m.Intn(5) {
		size += 1 + m.Intn(5)
		stock = append(stock, api.Furniture{Size: size, Count: m.Intn(5)})
	}
	return stock
}

// P7.6, P7.10: no filling of a made stock has fewer pieces than the one that is found, and with more
// furniture no more are needed.
func TestAllFillings(t *testing.T) {
	m := newMaker(9)
	for range 1500 {
		stock, length := m.stock(), m.Intn(40)
		pieces := fewest(stock, length)
		checkFill(t, stock, length, pieces)
		if len(stock) == 0 {
			continue
		}
		more := slices.Clone(stock)
		more[m.Intn(len(more))].Count += 1 + m.Intn(3)
		_, labels, _ := forme.FillLength(more, length)
		if bound, e := forme.CheckFillLabels(more, length, labels); e != api.OK || bound > pieces {
			t.Errorf("%v fills %d with %d pieces, %v with %d", stock, length, pieces, more, bound)
		}
	}
}

// greatest is the greatest right labels of a stock and a length, by the definition.
func greatest(stock []api.Furniture, length int) [][]int {
	labels := [][]int{slices.Repeat([]int{no}, length+1)}
	labels[0][0] = 0
	for k, x := range stock {
		row := slices.Repeat([]int{no}, length+1)
		for r := range row {
			for j := range x.Count + 1 {
				if r-j*x.Size >= 0 {
					row[r] = min(row[r], labels[k][r-j*x.Size]+j)
				}
			}
		}
		labels = append(labels, row)
	}
	return labels
}

// P7.6, P7.10: labels one of which is greater than it may be are wrong, and right ones have no greater
// bound than a filling has pieces.
func TestAllFillLabels(t *testing.T) {
	m := newMaker(10)
	for range 600 {
		stock, length := m.stock(), m.Intn(25)
		labels := greatest(stock, length)
		pieces := fewest(stock, length)
		bound, e := forme.CheckFillLabels(stock, length, labels)
		want(t, "CheckFillLabels of the greatest ones", bound, e, pieces, api.OK)
		k, r := m.Intn(len(labels)), m.Intn(length+1)
		was := labels[k][r]
		labels[k][r]++
		wantError := api.ErrProof
		if was == no {
			wantError = api.ErrRange
		}
		bound, e = forme.CheckFillLabels(stock, length, labels)
		want(t, "CheckFillLabels of a greater one", bound, e, 0, wantError)
		labels[k][r] = m.Intn(was + 1)
		if bound, e = forme.CheckFillLabels(stock, length, labels); e == api.OK && bound > pieces {
			t.Errorf("%v and %d have the bound %d, but are filled with %d pieces", stock, length, bound, pieces)
		}
	}
}
