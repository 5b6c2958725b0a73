package page_test

import (
	"slices"
	"testing"

	"tympan/api"
	"tympan/fount"
	"tympan/page"
)

// threeLines is those of example 5: a b, a a b, a.
func threeLines() []api.TypeLine {
	return []api.TypeLine{lineOf(1, 0, 1), lineOf(1, 0, 0, 1), lineOf(1, 0)}
}

// wrongLines has lines with errors; each one has errors that are listed later, too.
func wrongLines() []struct {
	what  string
	lines []api.TypeLine
	e     api.Errno
} {
	return []struct {
		what  string
		lines []api.TypeLine
		e     api.Errno
	}{
		{"101 lines", slices.Repeat([]api.TypeLine{lineOf(1, 9)}, 101), api.ErrLarge},
		{"a long line", []api.TypeLine{lineOf(1, 0), lineOf(1, same(9, 10001)...)}, api.ErrLarge},
		{"no sort 5", []api.TypeLine{lineOf(1, 0), lineOf(1, 0, 5), lineOf(1, same(0, 10001)...)}, api.ErrMissing},
		{"no sort -1", []api.TypeLine{lineOf(1, -1)}, api.ErrMissing},
		{"a great sort", []api.TypeLine{lineOf(1, great)}, api.ErrMissing},
	}
}

// P5.5: what lines need.
func TestNeedOf(t *testing.T) {
	for _, c := range []struct {
		what  string
		lines []api.TypeLine
		want  []int
	}{
		{"example 5", threeLines(), []int{4, 2, 0, 0, 0}},
		{"no lines", nil, same(0, 5)},
		{"empty lines", []api.TypeLine{{}, lineOf(-1)}, same(0, 5)},
		{"lines of any measure", []api.TypeLine{lineOf(-9, 4, 4), lineOf(great, 4, 3, 2)}, []int{0, 0, 1, 1, 3}},
		{"100 lines of 10000", slices.Repeat([]api.TypeLine{lineOf(1, same(2, 10000)...)}, 100), []int{0, 0, 1000000, 0, 0}},
	} {
		need, e := page.NeedOf(roman(), c.lines)
		wantList(t, "NeedOf, "+c.what, need, e, c.want, api.OK)
	}
	for _, c := range wrongLines() {
		need, e := page.NeedOf(roman(), c.lines)
		wantList(t, "NeedOf, "+c.what, need, e, nil, c.e)
	}
}

// P5.5: where sorts lack.
func TestTurned(t *testing.T) {
	type places = [][2]int
	for _, c := range []struct {
		what   string
		counts []int
		lines  []api.TypeLine
		want   places
	}{
		{"example 5", []int{3, 2, 0, 0, 0}, threeLines(), places{{2, 0}}},
		{"enough", []int{4, 2, 0, 0, 0}, threeLines(), nil},
		{"nothing", same(0, 5), threeLines(), places{{0, 0}, {0, 1}, {1, 0}, {1, 1}, {1, 2}, {2, 0}}},
		{"one of each", same(1, 5), threeLines(), places{{1, 0}, {1, 1}, {1, 2}, {2, 0}}},
		{"a lacks, b does not", []int{1, 9, 0, 0, 0}, threeLines(), places{{1, 0}, {1, 1}, {2, 0}}},
		{"a space lacks", []int{9, 9, 9, 9, 1}, []api.TypeLine{lineOf(1, 0, 4, 1, 4), {}, lineOf(1, 4, 2)}, places{{0, 3}, {2, 0}}},
		{"no lines", same(0, 5), nil, nil},
	} {
		at, e := page.Turned(roman(), c.counts, c.lines)
		wantList(t, "Turned, "+c.what, at, e, c.want, api.OK)
	}
	for _, c := range wrongLines() {
		at, e := page.Turned(roman(), same(0, 5), c.lines)
		wantList(t, "Turned, "+c.what, at, e, nil, c.e)
	}
	all, e := page.Turned(roman(), same(0, 5), slices.Repeat([]api.TypeLine{lineOf(1, same(2, 10000)...)}, 100))
	if e != api.OK || len(all) != 1000000 || all[999999] != [2]int{99, 9999} {
		t.Errorf("Turned, a million: %d, error %d", len(all), e)
	}
}

// standOf is a stand with so many a in the case, and pages that need these numbers of a.
func standOf(count int, needs ...int) api.PageStand {
	s := api.PageStand{Case: []int{count, 0, 0, 0, 0}}
	for _, n := range needs {
		s.Needs = append(s.Needs, []int{n, 0, 0, 0, 0})
	}
	return s
}

// P5.5: sets that stand, and those that do not.
func TestStands(t *testing.T) {
	two := api.PageStand{Case: []int{5, 3, 0, 2, 0}, Needs: [][]int{{3, 1, 0, 2, 0}, {2, 2, 0, 0, 0}, {1, 1, 0, 1, 0}, {0, 9, 0, 0, 9}, {0, 0, 0, 0, 0}}}
	for _, c := range []struct {
		what string
		s    api.PageStand
		set  []int
		want int
		e    api.Errno
	}{
		{"example 5", standOf(3, 2, 2, 1), []int{0, 2}, 2, api.OK},
		{"example 5, the other two", standOf(3, 2, 2, 1), []int{1, 2}, 2, api.OK},
		{"example 5, too much", standOf(3, 2, 2, 1), []int{0, 1}, 0, api.ErrStock},
		{"no pages", standOf(0, 2), nil, 0, api.OK},
		{"no pages at all", standOf(0), nil, 0, api.OK},
		{"just enough", two, []int{0, 1}, 2, api.OK},
		{"a page that needs nothing", two, []int{0, 1, 4}, 3, api.OK},
		{"the first sort", two, []int{0, 1, 2}, 0, api.ErrStock},
		{"not the first sort", two, []int{0, 2}, 3, api.ErrStock},
		{"two sorts lack", two, []int{1, 3}, 1, api.ErrStock},
		{"one page", two, []int{3}, 1, api.ErrStock},
		{"12 million", standOf(1000000, same(1000000, 12)...), []int{0, 1, 2, 3, 4, 5, 6, 7, 8, 9, 10, 11}, 0, api.ErrStock},
	} {
		n, e := page.Stands(roman(), c.s, c.set)
		wantNumber(t, "Stands, "+c.what, n, e, c.want, c.e)
	}
}

// wrongStands has stands with errors; each one has errors that are listed later, too.
func wrongStands() []struct {
	what string
	s    api.PageStand
	e    api.Errno
} {
	type needs = [][]int
	right := same(0, 5)
	return []struct {
		what string
		s    api.PageStand
		e    api.Errno
	}{
		{"a case of four", api.PageStand{Case: same(-1, 4), Needs: make(needs, 13)}, api.ErrShape},
		{"no case", api.PageStand{Needs: make(needs, 13)}, api.ErrShape},
		{"a case with -1", api.PageStand{Case: []int{0, 0, -1, 0, 0}, Needs: make(needs, 13)}, api.ErrRange},
		{"a case with too many", api.PageStand{Case: []int{0, 0, 1000001, 0, 0}, Needs: make(needs, 13)}, api.ErrRange},
		{"13 pages", api.PageStand{Case: right, Needs: make(needs, 13)}, api.ErrLarge},
		{"a need of six", api.PageStand{Case: right, Needs: needs{right, same(-1, 6), same(-1, 5)}}, api.ErrShape},
		{"a need with -1", api.PageStand{Case: right, Needs: needs{right, {0, 0, 0, 0, -1}, nil}}, api.ErrRange},
		{"a need with too many", api.PageStand{Case: right, Needs: needs{{great, 0, 0, 0, 0}, nil}}, api.ErrRange},
	}
}

// setCalls is the functions that take a stand and a set, standCalls those that take a stand alone.
func setCalls() []call {
	type a = arguments
	return []call{
		{"Stands", func(x a) ([]any, api.Errno) { r, e := page.Stands(x.f, x.stand, x.set); return results(e, r) }},
		{"CheckExcluding", func(x a) ([]any, api.Errno) {
			r, e := page.CheckExcluding(x.f, x.stand, x.set)
			return results(e, r)
		}},
	}
}

func standCalls() []call {
	type a = arguments
	return []call{
		{"MostStanding", func(x a) ([]any, api.Errno) { r, e := page.MostStanding(x.f, x.stand); return results(e, r) }},
		{"Excluding", func(x a) ([]any, api.Errno) {
			set, sort, e := page.Excluding(x.f, x.stand)
			return results(e, set, sort)
		}},
	}
}

// P5.5: stands and sets with errors.
func TestWrongSets(t *testing.T) {
	for _, c := range append(setCalls(), standCalls()...) {
		x := rightArguments()
		x.set = []int{-1}
		for _, w := range wrongStands() {
			x.stand = w.s
			wantError(t, c, x, w.what, w.e)
		}
	}
	for _, c := range setCalls() {
		x := rightArguments()
		x.stand = standOf(3, 2, 2, 1)
		for _, w := range []struct {
			set []int
			e   api.Errno
		}{
			{[]int{3}, api.ErrMissing}, {[]int{-1}, api.ErrMissing}, {[]int{great, 0}, api.ErrMissing},
			{[]int{1, 1, 3}, api.ErrMissing}, {[]int{2, 0, -1}, api.ErrMissing}, {slices.Repeat([]int{0, 9}, 9), api.ErrMissing},
			{[]int{1, 1}, api.ErrOrder}, {[]int{2, 0}, api.ErrOrder}, {[]int{0, 1, 0}, api.ErrOrder}, {same(2, 99), api.ErrOrder},
		} {
			x.set = w.set
			wantError(t, c, x, "a wrong set", w.e)
		}
		x.stand, x.set = standOf(3), []int{0}
		wantError(t, c, x, "a page of none", api.ErrMissing)
	}
}

// P5.5: the greatest set that stands, and the least one that excludes itself.
func TestSets(t *testing.T) {
	for _, c := range []struct {
		what      string
		s         api.PageStand
		most      []int
		excluding []int
		sort      int
		e         api.Errno
	}{
		{"example 5", standOf(3, 2, 2, 1), []int{0, 2}, []int{0, 1}, 0, api.OK},
		{"all stand", standOf(5, 2, 2, 1), []int{0, 1, 2}, nil, 0, api.ErrNone},
		{"no pages", standOf(0), nil, nil, 0, api.ErrNone},
		{"one page", standOf(1, 1), []int{0}, nil, 0, api.ErrNone},
		{"one page that does not stand", standOf(1, 2), nil, []int{0}, 0, api.OK},
		{"one of several does not stand", standOf(3, 1, 1, 4, 1), []int{0, 1, 3}, []int{2}, 0, api.OK},
		{"two of several do not stand", standOf(3, 1, 4, 4, 1), []int{0, 3}, []int{1}, 0, api.OK},
		{"none stands", standOf(0, 1, 1), nil, []int{0}, 0, api.OK},
		{"more pages, not the first one", standOf(4, 4, 2, 1, 1), []int{1, 2, 3}, []int{0, 1}, 0, api.OK},
		{"three exclude each other", standOf(5, 2, 2, 2, 1), []int{0, 1, 3}, []int{0, 1, 2}, 0, api.OK},
		{"the first three of five", standOf(4, 2, 1, 1, 1, 1), []int{1, 2, 3, 4}, []int{0, 1, 2, 3}, 0, api.OK},
		{"two later ones, not the first three", standOf(6, 1, 1, 3, 4, 1), []int{0, 1, 2, 4}, []int{2, 3}, 0, api.OK},
		{"another sort", api.PageStand{Case: []int{9, 9, 2, 9, 1}, Needs: [][]int{{1, 1, 1, 0, 0}, {1, 1, 1, 1, 1}, {1, 1, 0, 0, 1}}}, []int{0, 1}, []int{1, 2}, 4, api.OK},
		{"two sorts lack", api.PageStand{Case: []int{9, 1, 1, 9, 1}, Needs: [][]int{{1, 0, 1, 0, 1}, {1, 1, 1, 1, 1}}}, []int{0}, []int{0, 1}, 2, api.OK},
		{"twelve pages", standOf(6, same(1, 12)...), []int{0, 1, 2, 3, 4, 5}, []int{0, 1, 2, 3, 4, 5, 6}, 0, api.OK},
		{"twelve pages, all but the first one", standOf(11, append([]int{5}, same(1, 11)...)...), []int{1, 2, 3, 4, 5, 6, 7, 8, 9, 10, 11}, []int{0, 1, 2, 3, 4, 5, 6, 7}, 0, api.OK},
		{"twelve great pages", standOf(1000000, same(1000000, 12)...), []int{0}, []int{0, 1}, 0, api.OK},
	} {
		most, e := page.MostStanding(roman(), c.s)
		wantList(t, "MostStanding, "+c.what, most, e, c.most, api.OK)
		set, sort, e := page.Excluding(roman(), c.s)
		wantList(t, "Excluding, "+c.what, set, e, c.excluding, c.e)
		wantNumber(t, "Excluding, "+c.what, sort, e, c.sort, c.e)
		if c.e == api.OK {
			sort, e := page.CheckExcluding(roman(), c.s, set)
			wantNumber(t, "CheckExcluding, "+c.what, sort, e, c.sort, api.OK)
		}
	}
}

// P5.5: sets that exclude themselves, the least ones or not.
func TestCheckExcluding(t *testing.T) {
	for _, c := range []struct {
		what string
		s    api.PageStand
		set  []int
		want int
		e    api.Errno
	}{
		{"example 5", standOf(3, 2, 2, 1), []int{0, 1}, 0, api.OK},
		{"another one", standOf(2, 2, 2, 1), []int{1, 2}, 0, api.OK},
		{"not the least one", standOf(3, 3, 1, 1, 1, 1), []int{1, 2, 3, 4}, 0, api.OK},
		{"another sort", api.PageStand{Case: []int{9, 9, 2, 9, 1}, Needs: [][]int{{1, 1, 1, 0, 0}, {1, 1, 1, 1, 1}, {1, 1, 0, 0, 1}}}, []int{1, 2}, 4, api.OK},
		{"it stands", standOf(3, 2, 2, 1), []int{0, 2}, 0, api.ErrProof},
		{"no pages", standOf(0, 2), nil, 0, api.ErrProof},
		{"one page too many", standOf(3, 2, 2, 1), []int{0, 1, 2}, 0, api.ErrClash},
		{"the first page is too many", standOf(3, 0, 2, 2), []int{0, 1, 2}, 0, api.ErrClash},
		{"one page alone", standOf(3, 2, 4), []int{0, 1}, 0, api.ErrClash},
		{"of another sort", api.PageStand{Case: []int{1, 1, 0, 0, 0}, Needs: [][]int{{1, 1, 0, 0, 0}, {1, 0, 0, 0, 0}, {0, 1, 0, 0, 0}}}, []int{0, 1, 2}, 0, api.ErrClash},
	} {
		sort, e := page.CheckExcluding(roman(), c.s, c.set)
		wantNumber(t, "CheckExcluding, "+c.what, sort, e, c.want, c.e)
	}
}

// lacking is the first sort of which a case has not enough for a set, or -1.
func lacking(s api.PageStand, set []int) int {
	for sort, n := range s.Case {
		for _, page := range set {
			n -= s.Needs[page][sort]
		}
		if n < 0 {
			return sort
		}
	}
	return -1
}

// allSets is all sets of so many pages, in lexicographic order.
func allSets(pages int) [][]int {
	var all [][]int
	for bits := range 1 << pages {
		var set []int
		for page := range pages {
			if bits>>page&1 == 1 {
				set = append(set, page)
			}
		}
		all = append(all, set)
	}
	slices.SortFunc(all, slices.Compare)
	return all
}

// excludesItself tells whether a set does not stand, but each one with a page less.
func excludesItself(s api.PageStand, set []int) bool {
	for i := range set {
		if lacking(s, slices.Delete(slices.Clone(set), i, i+1)) >= 0 {
			return false
		}
	}
	return lacking(s, set) >= 0
}

// P5.5, P5.11: what is told of the sets of made pages is what the definitions say.
func TestMadeSets(t *testing.T) {
	m := newMaker(7)
	all := 0
	for range 600 {
		s := api.PageStand{Case: []int{m.Intn(12), m.Intn(12), 0, m.Intn(9), 9}}
		for range m.Intn(7) {
			s.Needs = append(s.Needs, []int{m.Intn(5), m.Intn(4), 0, m.Intn(3), m.Intn(2)})
		}
		var greatest, least []int
		found := false
		for _, set := range allSets(len(s.Needs)) {
			sort := lacking(s, set)
			n, e := page.Stands(roman(), s, set)
			n2, e2 := page.CheckExcluding(roman(), s, set)
			switch {
			case sort < 0:
				wantNumber(t, "Stands of a made set", n, e, len(set), api.OK)
				wantNumber(t, "CheckExcluding of a made set that stands", n2, e2, 0, api.ErrProof)
				if len(set) > len(greatest) {
					greatest = set
				}
			case excludesItself(s, set):
				wantNumber(t, "Stands of a made set", n, e, sort, api.ErrStock)
				wantNumber(t, "CheckExcluding of a made set", n2, e2, sort, api.OK)
				if !found || len(set) < len(least) {
					least, found = set, true
				}
			default:
				wantNumber(t, "Stands of a made set", n, e, sort, api.ErrStock)
				wantNumber(t, "CheckExcluding of a made set with more pages", n2, e2, 0, api.ErrClash)
			}
		}
		most, e := page.MostStanding(roman(), s)
		wantList(t, "MostStanding of made pages", most, e, greatest, api.OK)
		set, sort, e := page.Excluding(roman(), s)
		if !found {
			all++
			wantList(t, "Excluding of made pages", set, e, nil, api.ErrNone)
		} else {
			wantList(t, "Excluding of made pages", set, e, least, api.OK)
			wantNumber(t, "Excluding of made pages", sort, e, lacking(s, least), api.OK)
		}
		if (len(most) == len(s.Needs)) != (e == api.ErrNone) {
			t.Errorf("%v: %v stand, but the error %d", s, most, e)
		}
	}
	if all < 50 || all > 550 {
		t.Errorf("of 600 stands %d stand as a whole", all)
	}
}

// P5.5, P5.11: the sorts that lack are just those that fount.Lacking counts, and lack as late as
// possible.
func TestMadeLacks(t *testing.T) {
	m := newMaker(8)
	for range 1000 {
		var list []api.TypeLine
		for range m.Intn(5) {
			list = append(list, lineOf(1, m.sorts(m.Intn(6))...))
		}
		counts := m.sorts(5)
		need, e := page.NeedOf(roman(), list)
		var sorts [][]int
		for _, l := range list {
			sorts = append(sorts, l.Sorts)
		}
		wantList(t, "NeedOf of made lines", need, e, needOf(roman(), sorts...), api.OK)
		places, e := page.Turned(roman(), counts, list)
		if e != api.OK {
			t.Fatalf("Turned of made lines: error %d", e)
		}
		lacking, _ := fount.Lacking(roman(), counts, need)
		var turned []int
		for _, at := range places {
			turned = append(turned, list[at[0]].Sorts[at[1]])
		}
		wantList(t, "what Turned lacks", needOf(roman(), turned), api.OK, lacking, api.OK)
		taken := same(0, 5)
		for i, l := range list {
			for j, sort := range l.Sorts {
				if lacks := slices.Contains(places, [2]int{i, j}); lacks != (taken[sort] >= counts[sort]) {
					t.Errorf("Turned of %v, %v: %v, wrong at %d, %d", counts, list, places, i, j)
				}
				taken[sort]++
			}
		}
		if !slices.IsSortedFunc(places, func(a, b [2]int) int { return slices.Compare(a[:], b[:]) }) {
			t.Errorf("Turned of %v, %v: %v", counts, list, places)
		}
	}
}
