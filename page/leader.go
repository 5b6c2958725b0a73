package page

import (
	"cmp"
	"slices"

	"tympan/api"
	"tympan/fount"
	"tympan/line"
)

// Leader: see the chapter.
func Leader(f api.Fount, counts []int, x api.PageLeader) (api.TypeLine, api.Errno) {
	if e := fount.CheckCase(f, counts); e != api.OK {
		return api.TypeLine{}, e
	}
	if spaces, _ := fount.Spaces(f); len(spaces) > api.MaxLineKinds {
		return api.TypeLine{}, api.ErrLarge
	}
	if e := errorOfLeader(f, x); e != api.OK {
		return api.TypeLine{}, e
	}
	left, e := taken(f, counts, x.Left, x.Right)
	if e != api.OK {
		return api.TypeLine{}, e
	}
	room := x.Measure - measured(f, x.Left) - measured(f, x.Right)
	if room < 0 {
		return api.TypeLine{}, api.ErrBreak
	}
	spaces, leaders, e := filled(f, left, x.Dots, room)
	if e != api.OK {
		return api.TypeLine{}, e
	}
	dots := slices.Repeat(x.Dots, leaders)
	return api.TypeLine{Measure: x.Measure, Sorts: slices.Concat(x.Left, spaces, dots, x.Right)}, api.OK
}

func errorOfLeader(f api.Fount, x api.PageLeader) api.Errno {
	for _, sorts := range [][]int{x.Left, x.Right, x.Dots} {
		if _, e := fount.NeedOf(f, sorts); e != api.OK {
			return e
		}
	}
	if !isFrom(1, api.MaxDots, len(x.Dots)) {
		return api.ErrShape
	}
	if !isFrom(1, api.MaxMeasure, x.Measure) {
		return api.ErrRange
	}
	return api.OK
}

// taken returns what a case has left when lists of sorts of the fount are taken, or ErrStock. They are
// taken one by one: together they may be more than a list has.
func taken(f api.Fount, counts []int, lists ...[]int) ([]int, api.Errno) {
	left := counts
	for _, sorts := range lists {
		var e api.Errno
		if left, _, e = fount.Taken(f, left, needed(f, sorts)); e != api.OK {
			return nil, e
		}
	}
	return left, api.OK
}

// needed returns the need of sorts of the fount.
func needed(f api.Fount, sorts []int) []int {
	need, _ := fount.NeedOf(f, sorts)
	return need
}

// measured returns how wide sorts of the fount are together.
func measured(f api.Fount, sorts []int) int {
	width, _ := fount.WidthOf(f, sorts)
	return width
}

// filled returns the spaces, and the number of the leaders behind them, that fill a width with what a
// case has, with as many leaders as possible; or ErrNone.
func filled(f api.Fount, counts, dots []int, width int) ([]int, int, api.Errno) {
	need, each := needed(f, dots), measured(f, dots)
	// There is at least one dot, so that something is needed.
	times, _, _ := fount.Times(f, counts, need)
	for leaders := min(api.MaxLeaders, times, width/each); leaders >= 0; leaders-- {
		spaces, e := line.Fill(f, without(counts, need, leaders), width-leaders*each)
		if e == api.OK {
			return widestFirst(f, spaces), leaders, api.OK
		}
	}
	return nil, 0, api.ErrNone
}

// without returns what a case has left without so many times a need.
func without(counts, need []int, times int) []int {
	left := make([]int, len(counts))
	for sort, count := range counts {
		left[sort] = count - times*need[sort]
	}
	return left
}

// widestFirst returns sorts that have been counted in a row: the widest ones first, of equal widths
// those with the lesser number.
func widestFirst(f api.Fount, counts []int) []int {
	var row []int
	for sort, count := range counts {
		row = append(row, slices.Repeat([]int{sort}, count)...)
	}
	slices.SortStableFunc(row, func(a, b int) int {
		return cmp.Compare(f.Sorts[b].Width, f.Sorts[a].Width)
	})
	return row
}

// CheckLeader: see the chapter.
func CheckLeader(f api.Fount, x api.PageLeader, l api.TypeLine) (int, api.Errno) {
	if e := errorOfLeader(f, x); e != api.OK {
		return 0, e
	}
	width, e := fount.WidthOf(f, l.Sorts)
	if e != api.OK {
		return 0, e
	}
	if l.Measure != x.Measure || l.Measure != width {
		return 0, api.ErrSum
	}
	middle, hasBegin := cutPrefix(l.Sorts, x.Left)
	middle, hasEnd := cutSuffix(middle, x.Right)
	if !hasBegin || !hasEnd {
		return 0, api.ErrForm
	}
	leaders := 0
	// As many leaders as possible leave the fewest sorts ahead of them, which must all be spaces.
	for rest, isOneMore := cutSuffix(middle, x.Dots); isOneMore; rest, isOneMore = cutSuffix(middle, x.Dots) {
		middle = rest
		leaders++
	}
	if !areSpaces(f, middle) {
		return 0, api.ErrForm
	}
	return leaders, api.OK
}

// cutPrefix returns sorts without those that they begin with, and whether they do.
func cutPrefix(sorts, begin []int) ([]int, bool) {
	if len(sorts) < len(begin) || !slices.Equal(sorts[:len(begin)], begin) {
		return sorts, false
	}
	return sorts[len(begin):], true
}

// cutSuffix returns sorts without those that they end with, and whether they do.
func cutSuffix(sorts, end []int) ([]int, bool) {
	ahead := len(sorts) - len(end)
	if ahead < 0 || !slices.Equal(sorts[ahead:], end) {
		return sorts, false
	}
	return sorts[:ahead], true
}

// areSpaces needs sorts of the fount.
func areSpaces(f api.Fount, sorts []int) bool {
	return !slices.ContainsFunc(sorts, func(sort int) bool {
		return f.Sorts[sort].Kind != api.SortSpace
	})
}

// ColumnWidths: see the chapter.
func ColumnWidths(f api.Fount, rows [][][]int) ([]int, api.Errno) {
	if _, e := fount.CheckFount(f); e != api.OK {
		return nil, e
	}
	if len(rows) > api.MaxTableRows {
		return nil, api.ErrLarge
	}
	var widths []int
	for i, row := range rows {
		if len(row) != len(rows[0]) {
			return nil, api.ErrShape
		}
		if len(row) > api.MaxTableRows {
			return nil, api.ErrLarge
		}
		if i == 0 {
			widths = make([]int, len(row))
		}
		for column, cell := range row {
			width, e := fount.WidthOf(f, cell)
			if e != api.OK {
				return nil, e
			}
			widths[column] = max(widths[column], width)
		}
	}
	return widths, api.OK
}
