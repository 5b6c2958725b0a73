package page_test

import (
	"cmp"
	"slices"
	"testing"

	"tympan/api"
	"tympan/page"
)

// chapter is the leader of example 4, with another measure.
func chapter(measure int) api.PageLeader {
	return api.PageLeader{Left: []int{0}, Right: []int{0}, Dots: []int{1, 4}, Measure: measure}
}

// P5.4: lines with leaders.
func TestLeader(t *testing.T) {
	type leader = api.PageLeader
	two := small([]int{300, 7}, 5, 9, 5)
	wide := small([]int{1, 100000}, 2000)
	tight := small([]int{4, 3}, 2)
	nine := small([]int{300}, 1, 2, 3, 4, 5, 6, 7, 8, 9)
	long := append([]int{0}, same(1, 9999)...)
	for _, c := range []struct {
		what   string
		f      api.Fount
		counts []int
		x      leader
		want   []int
		e      api.Errno
	}{
		{"example 4", roman(), []int{2, 2, 0, 0, 2}, chapter(1500), []int{0, 1, 4, 1, 4, 0}, api.OK},
		{"example 4 of a full case", roman(), same(9, 5), chapter(1500), []int{0, 1, 4, 1, 4, 0}, api.OK},
		{"one leader and spaces", roman(), same(9, 5), chapter(1490), []int{0, 3, 4, 4, 1, 4, 0}, api.OK},
		{"one b", roman(), []int{2, 1, 0, 9, 9}, chapter(1490), []int{0, 3, 4, 4, 1, 4, 0}, api.OK},
		{"no b", roman(), []int{2, 0, 0, 9, 9}, chapter(1480), []int{0, 3, 3, 4, 4, 4, 4, 0}, api.OK},
		{"no leader", roman(), []int{2, 0, 0, 9, 9}, chapter(1400), []int{0, 3, 3, 3, 3, 0}, api.OK},
		{"no leader in a narrow line", roman(), same(9, 5), chapter(920), []int{0, 3, 4, 0}, api.OK},
		{"nothing between", roman(), same(9, 5), chapter(600), []int{0, 0}, api.OK},
		{"only the leader's spaces", roman(), []int{2, 9, 0, 0, 2}, chapter(1500), []int{0, 1, 4, 1, 4, 0}, api.OK},
		{"the fewest spaces, then the widest first", two, []int{2, 0, 9, 9, 9}, leader{Left: []int{0}, Right: []int{0}, Dots: []int{1}, Measure: 600 + 28}, []int{0, 3, 3, 4, 4, 0}, api.OK},
		{"of equal widths the lesser number first", two, []int{2, 0, 9, 9, 1}, leader{Left: []int{0}, Right: []int{0}, Dots: []int{1}, Measure: 600 + 19}, []int{0, 3, 2, 4, 0}, api.OK},
		{"fewer leaders than go in", tight, []int{9, 9, 9}, leader{Left: []int{0}, Dots: []int{1}, Measure: 4 + 8}, []int{0, 2, 1, 1}, api.OK},
		{"fewer leaders, as spaces lack", tight, []int{9, 9, 1}, leader{Dots: []int{1}, Measure: 10}, nil, api.ErrNone},
		{"a leader of spaces", tight, []int{1, 0, 9}, leader{Left: []int{0}, Dots: []int{2, 2}, Measure: 4 + 14}, []int{0, 2, 2, 2, 2, 2, 2, 2}, api.OK},
		{"what leaders leave", tight, []int{1, 1, 2}, leader{Left: []int{0}, Dots: []int{2, 2, 1}, Measure: 4 + 9}, nil, api.ErrNone},
		{"what leaders leave for spaces", tight, []int{1, 1, 3}, leader{Left: []int{0}, Dots: []int{2, 2, 1}, Measure: 4 + 9}, []int{0, 2, 2, 2, 1}, api.OK},
		{"leaders of what the sides leave", tight, []int{1, 3, 9}, leader{Left: []int{0, 1}, Right: []int{1}, Dots: []int{1}, Measure: 10 + 6}, []int{0, 1, 2, 2, 2, 1}, api.OK},
		{"leaders of what the sides leave, with spaces", tight, []int{1, 3, 9}, leader{Left: []int{0, 1}, Right: []int{1}, Dots: []int{1}, Measure: 10 + 7}, []int{0, 1, 2, 2, 1, 1}, api.OK},
		{"no sides", tight, []int{0, 3, 0}, leader{Dots: []int{1}, Measure: 9}, []int{1, 1, 1}, api.OK},
		{"a side of spaces", tight, []int{1, 1, 3}, leader{Left: []int{2}, Right: []int{0, 2}, Dots: []int{1}, Measure: 13}, []int{2, 2, 1, 0, 2}, api.OK},
		{"200 leaders", tight, []int{0, 1000, 0}, leader{Dots: []int{1}, Measure: 600}, same(1, 200), api.OK},
		{"not 201 leaders", tight, []int{0, 1000, 0}, leader{Dots: []int{1}, Measure: 603}, nil, api.ErrNone},
		{"200 leaders and 12 spaces", tight, []int{0, 1000, 99}, leader{Dots: []int{1}, Measure: 624}, append(same(2, 12), same(1, 200)...), api.OK},
		{"not 13 spaces", tight, []int{0, 1000, 99}, leader{Dots: []int{1}, Measure: 626}, nil, api.ErrNone},
		{"20000 units of spaces", wide, []int{1, 0, 99}, leader{Left: []int{0}, Dots: []int{1}, Measure: 20001}, append([]int{0}, same(2, 10)...), api.OK},
		{"22000 units of spaces", wide, []int{1, 0, 99}, leader{Left: []int{0}, Dots: []int{1}, Measure: 22001}, nil, api.ErrNone},
		{"22000 units of spaces and leaders", wide, []int{1, 0, 99}, leader{Left: []int{0}, Dots: []int{2}, Measure: 22001}, append([]int{0}, same(2, 11)...), api.OK},
		{"a wide leader", wide, []int{1, 9, 99}, leader{Left: []int{0}, Dots: []int{1}, Measure: 1000000}, nil, api.ErrNone},
		{"wide leaders", wide, []int{1, 9, 99}, leader{Right: []int{0}, Dots: []int{1}, Measure: 902001}, append([]int{2}, append(same(1, 9), 0)...), api.OK},
		{"six dots", tight, []int{9, 9, 9}, leader{Dots: []int{0, 1, 0, 1, 0, 1}, Measure: 21}, []int{0, 1, 0, 1, 0, 1}, api.OK},
		{"20000 sorts at the sides", small([]int{1, 2}, 3), []int{3, 19998, 9}, leader{Left: long, Right: long, Dots: []int{0}, Measure: 2*19999 + 7}, slices.Concat(long, []int{2, 2, 0}, long), api.OK},
		{"the greatest measure", small([]int{5000}, 1), []int{200, 0}, leader{Dots: []int{0}, Measure: 1000000}, same(0, 200), api.OK},
		{"a fount without spaces", small([]int{4, 3}), []int{9, 9}, leader{Left: []int{0}, Dots: []int{1}, Measure: 10}, []int{0, 1, 1}, api.OK},
		{"a fount without spaces, a rest", small([]int{4, 3}), []int{9, 9}, leader{Left: []int{0}, Dots: []int{1}, Measure: 11}, nil, api.ErrNone},
		{"eight spaces", small([]int{300}, 1, 2, 3, 4, 5, 6, 7, 8), same(1, 9), leader{Dots: []int{0}, Measure: 15}, []int{8, 7}, api.OK},
		// Errors, each one ahead of later ones.
		{"nine spaces", nine, same(0, 10), leader{Left: []int{99}}, nil, api.ErrLarge},
		{"a long left side", roman(), same(0, 5), leader{Left: same(9, 10001), Right: []int{9}}, nil, api.ErrLarge},
		{"no sort at the left", roman(), same(0, 5), leader{Left: []int{5}, Right: same(0, 10001)}, nil, api.ErrMissing},
		{"a long right side", roman(), same(0, 5), leader{Right: same(0, 10001), Dots: []int{9}}, nil, api.ErrLarge},
		{"no sort at the right", roman(), same(0, 5), leader{Right: []int{-1}, Dots: same(0, 10001)}, nil, api.ErrMissing},
		{"very long dots", roman(), same(0, 5), leader{Dots: same(0, 10001)}, nil, api.ErrLarge},
		{"no sort in seven dots", roman(), same(0, 5), leader{Dots: append(same(0, 6), great)}, nil, api.ErrMissing},
		{"no dots", roman(), same(0, 5), leader{Left: []int{0}}, nil, api.ErrShape},
		{"seven dots", roman(), same(0, 5), leader{Left: []int{0}, Dots: same(0, 7)}, nil, api.ErrShape},
		{"the measure 0", roman(), same(0, 5), chapter(0), nil, api.ErrRange},
		{"the measure -1", roman(), same(0, 5), chapter(-1), nil, api.ErrRange},
		{"the measure 1000001", roman(), same(0, 5), chapter(1000001), nil, api.ErrRange},
		{"a great measure", roman(), same(0, 5), chapter(great), nil, api.ErrRange},
		{"one a for two sides", roman(), []int{1, 9, 9, 9, 9}, chapter(1), nil, api.ErrStock},
		{"no a", roman(), []int{0, 9, 9, 9, 9}, chapter(1500), nil, api.ErrStock},
		{"one of 20000", small([]int{1, 2}, 3), []int{2, 19997, 0}, leader{Left: long, Right: long, Dots: []int{0}, Measure: 1}, nil, api.ErrStock},
		{"too wide", roman(), []int{2, 0, 0, 0, 0}, chapter(599), nil, api.ErrBreak},
		{"far too wide", small([]int{100000}), []int{20000}, leader{Left: same(0, 10000), Right: same(0, 10000), Dots: []int{0}, Measure: 1000000}, nil, api.ErrBreak},
		{"a rest", roman(), same(9, 5), chapter(601), nil, api.ErrNone},
	} {
		want := lineOf(c.x.Measure, c.want...)
		if c.e != api.OK {
			want = api.TypeLine{}
		}
		l, e := page.Leader(c.f, c.counts, c.x)
		wantLine(t, "Leader, "+c.what, l, e, want, c.e)
	}
}

// eachFill calls a function with all counts of spaces, up to those of a case and to 12 in all.
func eachFill(f api.Fount, counts []int, do func(spaces []int)) {
	spaces := same(0, len(counts))
	var from func(sort, left int)
	from = func(sort, left int) {
		if sort == len(counts) {
			do(spaces)
			return
		}
		for n := 0; n == 0 || isSpace(f, sort) && n <= min(counts[sort], left); n++ {
			spaces[sort] = n
			from(sort+1, left-n)
		}
		spaces[sort] = 0
	}
	from(0, 12)
}

// leader is a line with leaders as the chapter defines it, of arguments without errors.
func leader(f api.Fount, counts []int, x api.PageLeader) ([]int, api.Errno) {
	left := less(counts, needOf(f, x.Left, x.Right), 1)
	room := x.Measure - widthOf(f, x.Left) - widthOf(f, x.Right)
	if slices.Min(left) < 0 {
		return nil, api.ErrStock
	}
	if room < 0 {
		return nil, api.ErrBreak
	}
	for leaders := 200; leaders >= 0; leaders-- {
		rest := less(left, needOf(f, x.Dots), leaders)
		width := room - leaders*widthOf(f, x.Dots)
		if slices.Min(rest) < 0 || width < 0 || width > 20000 {
			continue
		}
		var best []int
		eachFill(f, rest, func(spaces []int) {
			w := 0
			for sort, n := range spaces {
				w += n * f.Sorts[sort].Width
			}
			if w == width && (best == nil || sum(spaces) < sum(best)) {
				best = slices.Clone(spaces)
			}
		})
		if best != nil {
			return slices.Concat(x.Left, inRow(f, best), slices.Repeat(x.Dots, leaders), x.Right), api.OK
		}
	}
	return nil, api.ErrNone
}

// inRow is spaces that are counted, the widest first, of equal widths those with the lesser number.
func inRow(f api.Fount, spaces []int) []int {
	var row []int
	for sort, n := range spaces {
		row = append(row, same(sort, n)...)
	}
	slices.SortFunc(row, func(a, b int) int {
		return cmp.Or(f.Sorts[b].Width-f.Sorts[a].Width, a-b)
	})
	return row
}

// leader makes a fount, a case and a leader without errors.
func (m maker) leader() (api.Fount, []int, api.PageLeader) {
	f := small([]int{1 + m.Intn(4), 1 + m.Intn(6)}, 1+m.Intn(5), 1+m.Intn(6), 1+m.Intn(6))
	counts := []int{m.Intn(8), m.Intn(8), m.Intn(4), m.Intn(4), m.Intn(4)}
	x := api.PageLeader{Left: m.sorts(m.Intn(3)), Right: m.sorts(m.Intn(3)), Dots: m.sorts(1 + m.Intn(3))}
	x.Measure = max(1, widthOf(f, x.Left)+widthOf(f, x.Right)+m.Intn(30)-1)
	return f, counts, x
}

// sorts makes a list of sorts of the founts of leaders.
func (m maker) sorts(n int) []int {
	var sorts []int
	for range n {
		sorts = append(sorts, m.Intn(5))
	}
	return sorts
}

// P5.4, P5.10: lines with leaders are those of the definition; CheckLeader accepts them.
func TestMadeLeaders(t *testing.T) {
	m := newMaker(5)
	found := map[api.Errno]int{}
	for range 6000 {
		f, counts, x := m.leader()
		sorts, want := leader(f, counts, x)
		l, e := page.Leader(f, counts, x)
		wantList(t, "Leader of a made one", l.Sorts, e, sorts, want)
		if found[e]++; e != api.OK {
			continue
		}
		if n, e := page.CheckLeader(f, x, l); e != api.OK || n != reading(f, x, l.Sorts) {
			t.Errorf("CheckLeader of %v, %v: %d, error %d", x, l, n, e)
		}
		if l.Measure != x.Measure || widthOf(f, l.Sorts) != x.Measure {
			t.Errorf("Leader of %v: %v is not as wide", x, l)
		}
	}
	for _, e := range []api.Errno{api.OK, api.ErrStock, api.ErrBreak, api.ErrNone} {
		if found[e] < 50 {
			t.Errorf("only %d lines with the error %d", found[e], e)
		}
	}
}

// reading is the most leaders with which sorts can be read, or -1.
func reading(f api.Fount, x api.PageLeader, sorts []int) int {
	for leaders := len(sorts); leaders >= 0; leaders-- {
		spaces := len(sorts) - len(x.Left) - len(x.Right) - leaders*len(x.Dots)
		if spaces < 0 {
			continue
		}
		row := slices.Clone(sorts[len(x.Left):][:spaces])
		isRow := !slices.ContainsFunc(row, func(sort int) bool { return !isSpace(f, sort) })
		if isRow && slices.Equal(sorts, slices.Concat(x.Left, row, slices.Repeat(x.Dots, leaders), x.Right)) {
			return leaders
		}
	}
	return -1
}

// P5.4: what is a line with leaders, however many it has.
func TestCheckLeader(t *testing.T) {
	type leader = api.PageLeader
	f := small([]int{4, 3}, 2, 5)
	spaced := leader{Left: []int{0}, Right: []int{2, 1}, Dots: []int{2, 1}}
	long := small([]int{1}, 1)
	for _, c := range []struct {
		what  string
		f     api.Fount
		x     leader
		sorts []int
		want  int
		e     api.Errno
	}{
		{"example 4", roman(), chapter(1), []int{0, 1, 4, 1, 4, 0}, 2, api.OK},
		{"spaces and a leader", roman(), chapter(1), []int{0, 4, 3, 4, 1, 4, 0}, 1, api.OK},
		{"spaces in any order, and many", roman(), chapter(1), append(append([]int{0}, same(4, 40)...), 3, 1, 4, 0), 1, api.OK},
		{"spaces alone", roman(), chapter(1), []int{0, 4, 0}, 0, api.OK},
		{"nothing between", roman(), chapter(1), []int{0, 0}, 0, api.OK},
		{"300 leaders", long, leader{Dots: []int{0}}, same(0, 300), 300, api.OK},
		{"10000 leaders", long, leader{Dots: []int{1}}, same(1, 10000), 10000, api.OK},
		{"leaders of spaces", f, leader{Left: []int{0}, Dots: []int{2, 2}}, []int{0, 2, 2, 2, 2, 2}, 2, api.OK},
		{"leaders of spaces that differ", f, leader{Dots: []int{2, 3}}, []int{3, 2, 3, 2, 3}, 2, api.OK},
		{"a space that a leader begins with", f, spaced, []int{0, 2, 2, 1, 2, 1}, 1, api.OK},
		{"a right side like a leader", f, spaced, []int{0, 2, 1, 2, 1, 2, 1}, 2, api.OK},
		{"a part of a leader that is a space", roman(), chapter(1), []int{0, 4, 1, 4, 0}, 1, api.OK},
		{"no side", f, leader{Dots: []int{0}}, []int{3, 0, 0}, 2, api.OK},
		{"nine spaces in the fount", small([]int{1}, 1, 2, 3, 4, 5, 6, 7, 8, 9), leader{Dots: []int{0}}, []int{9, 1, 0}, 1, api.OK},
		// What is not of the form.
		{"a letter between", roman(), chapter(1), []int{0, 2, 1, 4, 0}, 0, api.ErrForm},
		{"spaces behind the leaders", roman(), chapter(1), []int{0, 1, 4, 3, 0}, 0, api.ErrForm},
		{"spaces between the leaders", roman(), chapter(1), []int{0, 1, 4, 3, 1, 4, 0}, 0, api.ErrForm},
		{"a part of a leader ahead", roman(), chapter(1), []int{0, 1, 1, 4, 0}, 0, api.ErrForm},
		{"a part of a leader behind", roman(), chapter(1), []int{0, 1, 4, 1, 0}, 0, api.ErrForm},
		{"another left side", roman(), chapter(1), []int{1, 1, 4, 0}, 0, api.ErrForm},
		{"another right side", roman(), chapter(1), []int{0, 1, 4, 1}, 0, api.ErrForm},
		{"spaces ahead of the left side", roman(), chapter(1), []int{3, 0, 1, 4, 0}, 0, api.ErrForm},
		{"sides that share a sort", roman(), chapter(1), []int{0}, 0, api.ErrForm},
		{"sides that share sorts", f, leader{Left: []int{0, 1}, Right: []int{1, 0}, Dots: []int{0}}, []int{0, 1, 0}, 0, api.ErrForm},
		{"half a left side", f, leader{Left: []int{0, 1}, Dots: []int{0}}, []int{0}, 0, api.ErrForm},
	} {
		c.x.Measure = widthOf(c.f, c.sorts)
		n, e := page.CheckLeader(c.f, c.x, lineOf(c.x.Measure, c.sorts...))
		wantNumber(t, "CheckLeader, "+c.what, n, e, c.want, c.e)
	}
	// Errors, each one ahead of later ones.
	for _, c := range []struct {
		what string
		x    leader
		l    api.TypeLine
		e    api.Errno
	}{
		{"a long left side", leader{Left: same(9, 10001), Right: []int{9}}, api.TypeLine{}, api.ErrLarge},
		{"no sort at the left", leader{Left: []int{5}, Right: same(0, 10001)}, api.TypeLine{}, api.ErrMissing},
		{"a long right side", leader{Right: same(0, 10001), Dots: []int{9}}, api.TypeLine{}, api.ErrLarge},
		{"no sort at the right", leader{Right: []int{-1}, Dots: same(0, 10001)}, api.TypeLine{}, api.ErrMissing},
		{"very long dots", leader{Dots: same(0, 10001)}, api.TypeLine{}, api.ErrLarge},
		{"no sort in the dots", leader{Dots: []int{0, 5}}, api.TypeLine{}, api.ErrMissing},
		{"no dots", leader{}, lineOf(0, 5), api.ErrShape},
		{"seven dots", leader{Dots: same(0, 7)}, lineOf(0, 5), api.ErrShape},
		{"the measure 0", chapter(0), lineOf(0, 5), api.ErrRange},
		{"the measure 1000001", chapter(1000001), lineOf(1000001, 5), api.ErrRange},
		{"a long line", chapter(1500), lineOf(1, same(9, 10001)...), api.ErrLarge},
		{"no sort in the line", chapter(1500), lineOf(1, 0, 5, 0), api.ErrMissing},
		{"no sort -1 in the line", chapter(1500), lineOf(1, -1), api.ErrMissing},
		{"another measure", chapter(1499), lineOf(1500, 0, 1, 4, 1, 4, 0), api.ErrSum},
		{"a measure that is its width", chapter(1500), lineOf(600, 0, 0), api.ErrSum},
		{"not so wide", chapter(1501), lineOf(1501, 0, 1, 4, 1, 4, 0), api.ErrSum},
		{"wider", chapter(1499), lineOf(1499, 0, 1, 4, 1, 4, 0), api.ErrSum},
		{"no sorts", chapter(1500), lineOf(1500), api.ErrSum},
		{"another width and form", chapter(1500), lineOf(1500, 1, 1), api.ErrSum},
		{"a great measure", chapter(1500), lineOf(great, 0), api.ErrSum},
	} {
		n, e := page.CheckLeader(roman(), c.x, c.l)
		wantNumber(t, "CheckLeader, "+c.what, n, e, 0, c.e)
	}
}

// P5.4: lines are accepted just if the definition says so.
func TestMadeReadings(t *testing.T) {
	m := newMaker(6)
	accepted, refused := 0, 0
	for range 20000 {
		f, _, x := m.leader()
		middle := append(m.sorts(m.Intn(3)), slices.Repeat(x.Dots, m.Intn(4))...)
		sorts := slices.Concat(x.Left, middle, x.Right)
		if len(sorts) > 0 && m.Intn(4) == 0 {
			sorts = slices.Delete(sorts, 0, 1)
		}
		x.Measure = max(1, widthOf(f, sorts))
		if len(sorts) == 0 {
			continue
		}
		want, wantError := reading(f, x, sorts), api.OK
		if accepted++; want < 0 {
			want, wantError = 0, api.ErrForm
			accepted--
			refused++
		}
		n, e := page.CheckLeader(f, x, lineOf(x.Measure, sorts...))
		wantNumber(t, "CheckLeader of a made line", n, e, want, wantError)
	}
	if min(accepted, refused) < 1000 {
		t.Errorf("only %d lines that are accepted, %d refused", accepted, refused)
	}
}

// P5.4: the widths of the columns of tables.
func TestColumnWidths(t *testing.T) {
	type table = [][][]int
	a, ab, none := []int{0}, []int{0, 1}, []int(nil)
	wide := small([]int{100000})
	for _, c := range []struct {
		what string
		f    api.Fount
		rows table
		want []int
		e    api.Errno
	}{
		{"two rows", roman(), table{{a, ab}, {ab, a}}, []int{630, 630}, api.OK},
		{"three rows", roman(), table{{a, {3}}, {{1}, {4}}, {none, {3, 4}}}, []int{330, 320}, api.OK},
		{"empty cells", roman(), table{{none, a}, {none, none}}, []int{0, 300}, api.OK},
		{"one cell", roman(), table{{{2, 3, 2}}}, []int{920}, api.OK},
		{"no rows", roman(), nil, nil, api.OK},
		{"rows without cells", roman(), table{{}, nil, {}}, nil, api.OK},
		{"60 rows of 60", roman(), slices.Repeat(table{slices.Repeat([][]int{ab}, 60)}, 60), same(630, 60), api.OK},
		{"a wide cell", wide, table{{same(0, 9999)}, {same(0, 10000)}, {a}}, []int{1000000000}, api.OK},
		// Errors, each one ahead of later ones.
		{"61 rows", roman(), append(slices.Repeat(table{{{9}}}, 60), nil), nil, api.ErrLarge},
		{"a short row", roman(), table{{a, a}, {{9}}, {a, a, a}}, nil, api.ErrShape},
		{"a long row", roman(), table{{a}, {a, {9}}}, nil, api.ErrShape},
		{"a row without cells", roman(), table{{a}, {}}, nil, api.ErrShape},
		{"61 cells", roman(), table{slices.Repeat([][]int{{9}}, 61), nil}, nil, api.ErrLarge},
		{"61 cells behind one", roman(), table{{a}, slices.Repeat([][]int{{9}}, 61)}, nil, api.ErrShape},
		{"no sort", roman(), table{{a, a}, {a, {0, 5}}}, nil, api.ErrMissing},
		{"no sort -1", roman(), table{{{-1}, same(0, 10001)}}, nil, api.ErrMissing},
		{"a long cell", roman(), table{{same(0, 10001), {-1}}}, nil, api.ErrLarge},
		{"a cell ahead of a short row", roman(), table{{a, {5}}, {a}}, nil, api.ErrMissing},
	} {
		widths, e := page.ColumnWidths(c.f, c.rows)
		wantList(t, "ColumnWidths, "+c.what, widths, e, c.want, c.e)
	}
}
