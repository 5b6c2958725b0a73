package page_test

import (
	"fmt"
	"reflect"
	"slices"
	"testing"

	"tympan/api"
	"tympan/page"
)

// call is a function of the package with some arguments; its results but for the error, and the error.
type call struct {
	name string
	do   func(x arguments) ([]any, api.Errno)
}

// arguments is what the functions take.
type arguments struct {
	g      api.PageGalley
	r      api.PageRules
	at     [2]int
	breaks []int
	labels []int
	f      api.Fount
	counts []int
	leader api.PageLeader
	line   api.TypeLine
	rows   [][][]int
	lines  []api.TypeLine
	stand  api.PageStand
	set    []int
}

// rightArguments is mostly those of the examples.
func rightArguments() arguments {
	return arguments{
		g:      withNote(),
		r:      rules(),
		at:     [2]int{0, 2},
		breaks: []int{2, 4, 7},
		labels: same(0, 8),
		f:      roman(),
		counts: same(9, 5),
		leader: chapter(1490),
		line:   lineOf(1490, 0, 3, 4, 4, 1, 4, 0),
		rows:   [][][]int{{{0}, {1}}, {{2}, {3}}},
		lines:  slices.Repeat(threeLines(), 4),
		stand:  standOf(3, 2, 2, 1),
		set:    []int{0, 1},
	}
}

// wrongArguments has whatever is wrong.
func wrongArguments() arguments {
	return arguments{
		g:      galleyOf(api.PageItem{}),
		at:     [2]int{-1, -1},
		breaks: []int{-1},
		labels: []int{-1},
		counts: same(-1, 5),
		leader: api.PageLeader{Left: []int{-1}},
		line:   lineOf(-1, -1),
		rows:   [][][]int{{{-1}}},
		lines:  []api.TypeLine{lineOf(1, -1)},
		stand:  api.PageStand{Case: same(-1, 5)},
		set:    []int{-1},
	}
}

// rulesCalls is the functions that take a galley and rules, galleyCalls those that take a galley alone
// or with a page.
func rulesCalls() []call {
	type a = arguments
	return []call{
		pageCalls()[0],
		pageCalls()[2],
		{"Best", func(x a) ([]any, api.Errno) {
			b, l, n, e := page.Best(x.g, x.r)
			return results(e, b, l, n)
		}},
		{"CheckBreaks", func(x a) ([]any, api.Errno) {
			r, e := page.CheckBreaks(x.g, x.r, x.breaks)
			return results(e, r)
		}},
		{"CheckLabels", func(x a) ([]any, api.Errno) {
			r, e := page.CheckLabels(x.g, x.r, x.labels)
			return results(e, r)
		}},
		{"Greedy", func(x a) ([]any, api.Errno) { r, e := page.Greedy(x.g, x.r); return results(e, r) }},
	}
}

func galleyCalls() []call {
	type a = arguments
	return []call{
		pageCalls()[1],
		{"Print", func(x a) ([]any, api.Errno) { r, e := page.Print(x.g); return results(e, r) }},
	}
}

// fountCalls is the functions that take a fount, casesCalls those that take a case behind it, too.
func fountCalls() []call {
	type a = arguments
	return slices.Concat(casesCalls(), setCalls(), standCalls(), []call{
		{"CheckLeader", func(x a) ([]any, api.Errno) {
			r, e := page.CheckLeader(x.f, x.leader, x.line)
			return results(e, r)
		}},
		{"ColumnWidths", func(x a) ([]any, api.Errno) { r, e := page.ColumnWidths(x.f, x.rows); return results(e, r) }},
		{"NeedOf", func(x a) ([]any, api.Errno) { r, e := page.NeedOf(x.f, x.lines); return results(e, r) }},
	})
}

func casesCalls() []call {
	type a = arguments
	return []call{
		{"Leader", func(x a) ([]any, api.Errno) { r, e := page.Leader(x.f, x.counts, x.leader); return results(e, r) }},
		{"Turned", func(x a) ([]any, api.Errno) { r, e := page.Turned(x.f, x.counts, x.lines); return results(e, r) }},
	}
}

// otherCalls is the functions that are in none of these lists.
func otherCalls() []call {
	type a = arguments
	return []call{
		{"CheckGalley", func(x a) ([]any, api.Errno) { n, e := page.CheckGalley(x.g); return results(e, n) }},
		{"CheckRules", func(x a) ([]any, api.Errno) { return nil, page.CheckRules(x.r) }},
		{"Folio", func(x a) ([]any, api.Errno) { s, e := page.Folio(x.at[1], true); return results(e, s) }},
		{"ParseFolio", func(x a) ([]any, api.Errno) { n, r, e := page.ParseFolio("xiv"); return results(e, n, r) }},
		{"Parse", func(x a) ([]any, api.Errno) {
			g, n, e := page.Parse("row 1 0\ngap 2\nnote 3\n")
			return results(e, g, n)
		}},
	}
}

func wantError(t *testing.T, c call, x arguments, what string, want api.Errno) {
	t.Helper()
	if r, e := c.do(x); e != want || !isZero(r) {
		t.Errorf("%s, %s: %v, error %d, want %d", c.name, what, r, e, want)
	}
}

// P1, P5.2 to P5.7: the errors of arguments come in the order of the arguments.
func TestOrderOfErrors(t *testing.T) {
	for _, c := range append(rulesCalls(), galleyCalls()...) {
		for _, w := range wrongGalleys() {
			x := wrongArguments()
			x.g = w.g
			wantError(t, c, x, w.what, w.e)
		}
	}
	for _, c := range rulesCalls() {
		for what, r := range wrongRules() {
			x := wrongArguments()
			x.g, x.r = api.PageGalley{}, r
			wantError(t, c, x, what, api.ErrRange)
		}
	}
	for _, c := range fountCalls() {
		for want, f := range badFounts() {
			x := wrongArguments()
			x.f, x.lines = f, slices.Repeat(x.lines, 101)
			wantError(t, c, x, "a wrong fount", want)
		}
	}
	for _, c := range casesCalls() {
		x := wrongArguments()
		x.f, x.lines = small([]int{1, 2, 3, 4, 5}, 1, 2, 3, 4, 5, 6, 7, 8, 9), slices.Repeat(x.lines, 101)
		wantError(t, c, x, "a case of five", api.ErrShape)
		x.counts = append(same(0, 13), -1)
		wantError(t, c, x, "a case with -1", api.ErrRange)
		x.counts = append(same(0, 13), 1000001)
		wantError(t, c, x, "a case with too many", api.ErrRange)
		x.counts = same(0, 14)
		wantError(t, c, x, "what is behind the case", api.ErrLarge)
	}
}

// spoil writes into all numbers of a value that can be written, up to the capacity of its slices.
func spoil(v reflect.Value) {
	switch v.Kind() {
	case reflect.Slice:
		v = v.Slice(0, v.Cap())
		for i := range v.Len() {
			spoil(v.Index(i))
		}
	case reflect.Array:
		for i := range v.Len() {
			spoil(v.Index(i))
		}
	case reflect.Struct:
		for i := range v.NumField() {
			spoil(v.Field(i))
		}
	case reflect.Int:
		if v.CanSet() {
			v.SetInt(-7)
		}
	}
}

// R3, R4: no call writes into its arguments, and results share no memory with arguments or with
// the results of other calls.
func TestNothingIsShared(t *testing.T) {
	x := rightArguments()
	was := fmt.Sprint(x)
	for _, c := range slices.Concat(rulesCalls(), galleyCalls(), fountCalls(), otherCalls()) {
		want := api.OK
		if c.name == "Stands" {
			want = api.ErrStock
		}
		first, e := c.do(x)
		if e != want {
			t.Errorf("%s: error %d", c.name, e)
		}
		text := fmt.Sprint(first)
		for _, r := range first {
			spoil(reflect.ValueOf(r))
		}
		if second, e := c.do(x); e != want || fmt.Sprint(second) != text {
			t.Errorf("%s once more: %v, %d, first %s", c.name, second, e, text)
		}
		if fmt.Sprint(x) != was {
			t.Fatalf("%s has written into its arguments", c.name)
		}
	}
}

// R3: no two slices within a result share memory.
func TestResultsShareNothing(t *testing.T) {
	breaks, labels, _, _ := page.Best(example(), rules())
	for i := range labels[:cap(labels)] {
		labels[:cap(labels)][i] = -7
	}
	if len(breaks) == 0 || slices.Contains(breaks, -7) {
		t.Errorf("breaks %v share memory with labels", breaks)
	}
	g, _, _ := page.Parse("row 1 0\nrow 2 1\nnote 3\nnote 4\n")
	spoil(reflect.ValueOf(g.Items))
	if !slices.Equal(g.Notes, []int{3, 4}) {
		t.Errorf("notes %v share memory with items", g.Notes)
	}
}

// P5.8: the cost of Best is that of its breaks and its last label; Greedy, where there are no headings
// and no notes, has no more pages than any breaks.
func TestCheapest(t *testing.T) {
	m := newMaker(10)
	found := 0
	for range 1500 {
		b := m.plain()
		greedy, e := page.Greedy(b.g, b.r)
		b.each(func(breaks []int) {
			if _, e2 := page.CheckBreaks(b.g, b.r, breaks); e2 != api.OK {
				return
			}
			found++
			if e != api.OK || len(greedy) > len(breaks) {
				t.Errorf("Greedy of %v: %v, error %d, but there are %v", b, greedy, e, breaks)
			}
		})
	}
	if found < 1000 {
		t.Errorf("only %d breaks", found)
	}
}

// P5.9: the pages of breaks have all items and all notes, each one once; a galley that is one page
// alone costs its demerits alone.
func TestNothingIsLost(t *testing.T) {
	m := newMaker(11)
	found, alone := 0, 0
	for range 1500 {
		b := m.book()
		breaks, _, _, e := page.Best(b.g, b.r)
		if e == api.OK {
			found++
			var notes []int
			from, height := 0, 0
			for _, to := range breaks {
				on, _ := page.NotesOn(b.g, [2]int{from, to})
				notes = append(notes, on...)
				for _, item := range b.g.Items[from:to] {
					height += item.Height
				}
				from = to
			}
			all := 0
			for _, item := range b.g.Items {
				all += item.Height
			}
			if from != b.end() || height != all || len(notes) != len(b.g.Notes) || !slices.IsSorted(notes) {
				t.Errorf("Best of %v: %v, the notes %v", b, breaks, notes)
			}
		}
		if cost, e := page.CostOf(b.g, b.r, [2]int{0, b.end()}); e == api.OK {
			alone++
			if core := b.core(0, b.end()); cost != 0 || len(core) == 0 {
				t.Errorf("%v alone costs %d", b, cost)
			}
		}
	}
	if found < 500 || alone < 100 {
		t.Errorf("only %d books with breaks, %d of one page", found, alone)
	}
}

// P5.10: a line of Leader with just so many sorts as a list may have is accepted, one with more is not.
func TestLongLeaders(t *testing.T) {
	f := small([]int{1, 2}, 3)
	for sorts, want := range map[int]api.Errno{9999: api.OK, 10000: api.OK, 10001: api.ErrLarge, 20009: api.ErrLarge} {
		n := sorts - 11
		x := api.PageLeader{Left: same(0, n/2), Right: same(0, n-n/2), Dots: []int{1}, Measure: n + 20 + 3}
		l, e := page.Leader(f, []int{20000, 10, 99}, x)
		if e != api.OK || len(l.Sorts) != sorts {
			t.Fatalf("Leader of %d sorts: %d, error %d", sorts, len(l.Sorts), e)
		}
		leaders := 10
		if want != api.OK {
			leaders = 0
		}
		got, e := page.CheckLeader(f, x, l)
		wantNumber(t, "CheckLeader of a long line", got, e, leaders, want)
	}
}

// P5.11: a set that is part of one that stands stands.
func TestPartsStand(t *testing.T) {
	m := newMaker(12)
	for range 300 {
		s := standOf(m.Intn(20), m.sorts(8)...)
		set, _ := page.MostStanding(roman(), s)
		for i := range set {
			part := slices.Delete(slices.Clone(set), i, i+1)
			n, e := page.Stands(roman(), s, part)
			wantNumber(t, "Stands of a part", n, e, len(part), api.OK)
		}
	}
}
