package shop_test

import (
	"fmt"
	"slices"
	"strings"
	"testing"

	"tympan/api"
	"tympan/shop"
)

// P10.3: where a sort is.
func TestWhereIs(t *testing.T) {
	log := append(readingLog(), "worn a 3 sp 1", "melt a 1")
	wanted := map[string][4]int{
		"a":    {47, 9, 1, 2},
		"b":    {18, 1, 1, 0},
		"c":    {19, 1, 0, 0},
		"fi":   {5, 0, 0, 0},
		"sp":   {43, 8, 8, 1},
		"hy":   {4, 1, 0, 0},
		"mark": {5, 0, 0, 0},
	}
	for name, where := range wanted {
		got, e := shop.WhereIs(plain(), log, name)
		want(t, "WhereIs of "+name, got, e, where, api.OK)
		got, e = shop.WhereIs(plain(), nil, name)
		want(t, "WhereIs in the beginning of "+name, got, e, [4]int{}, api.OK)
	}
	for _, name := range []string{"", "A", "-", "#", "f", "a ", "a b", "p", "\x00"} {
		got, e := shop.WhereIs(plain(), log, name)
		want(t, "WhereIs of "+name, got, e, [4]int{}, api.ErrMissing)
	}
	// Two pages in two formes are both locked, and are not any more behind their unlocking.
	log = append(readingLog(), "lock g p")
	got, e := shop.WhereIs(plain(), log, "sp")
	want(t, "WhereIs of sp, all locked", got, e, [4]int{44, 0, 16, 0}, api.OK)
	got, e = shop.WhereIs(plain(), append(log, "unlock f"), "sp")
	want(t, "WhereIs of sp, one locked", got, e, [4]int{44, 8, 8, 0}, api.OK)
}

// P10.3: all sorts, and all metal.
func TestTotal(t *testing.T) {
	all := counts(plainA, 60, plainB, 20, plainC, 20, plainLigature, 5, plainSpace, 60, plainHyphen, 5, plainMark, 5)
	log, s := readingLog(), plain()
	for _, more := range []string{"", "worn a 3", "lock g p", "unlock g", "distribute p", "again r"} {
		if more != "" {
			log = append(log, more)
		}
		got, metal, e := shop.Total(s, log)
		want(t, "Total behind "+more, got, e, all, api.OK)
		want(t, "the metal behind "+more, metal, e, 1000000, api.OK)
	}
	log = append(log, "melt a 2", "cast b 1")
	got, metal, e := shop.Total(s, log)
	add(all, plainA, -2, plainB, 1)
	want(t, "Total behind melting and casting", got, e, all, api.OK)
	want(t, "the metal behind melting and casting", metal, e, 1000000, api.OK)
	got, metal, e = shop.Total(s, nil)
	want(t, "Total in the beginning", got, e, counts(), api.OK)
	want(t, "the metal in the beginning", metal, e, 1000000, api.OK)
}

// P10.4: words of pages, as they were written and as they are read back.
func TestCopyOfAndReadPage(t *testing.T) {
	log := append(readingLog(), "set s a # fi", "again r", "distribute r")
	wanted := map[string][]string{"p": {"aaaa", "aaabcaa"}, "q": {"a", "b"}, "r": {"c"}, "s": {"a", "#", "fi"}}
	for name, words := range wanted {
		got, e := shop.CopyOf(plain(), log, name)
		want(t, "CopyOf "+name, got, e, words, api.OK)
		got, e = shop.ReadPage(plain(), log, name)
		if name == "r" {
			want(t, "ReadPage of a page that does not stand", got, e, nil, api.ErrState)
		} else {
			want(t, "ReadPage of "+name, got, e, words, api.OK)
		}
	}
	for _, name := range []string{"", "f", "x", "P", "p ", " p", "\x00"} {
		got, e := shop.CopyOf(plain(), log, name)
		want(t, "CopyOf "+name, got, e, nil, api.ErrMissing)
		got, e = shop.ReadPage(plain(), log, name)
		want(t, "ReadPage of "+name, got, e, nil, api.ErrMissing)
	}
	log = append(log, "correct s out 0 1 #", "correct s in 0 2 b")
	got, e := shop.CopyOf(plain(), log, "s")
	want(t, "CopyOf a corrected page", got, e, []string{"a", "fi", "b"}, api.OK)
	got, e = shop.ReadPage(plain(), log, "s")
	want(t, "ReadPage of a corrected page", got, e, []string{"a", "fi", "b"}, api.OK)
}

// P10.4: how many lines words would have.
func TestCanSet(t *testing.T) {
	for _, x := range []struct {
		words []string
		lines int
		e     api.Errno
	}{
		{[]string{"a"}, 1, api.OK},
		{[]string{"aaaa", "aaabcaa"}, 2, api.OK},
		{[]string{"a", "#", "fi", "^"}, 0, api.ErrMissing},
		{repeated("a", 40), 8, api.OK},
		{nil, 0, api.ErrShape},
		{repeated("a", 101), 0, api.ErrLarge},
		{append(repeated("a", 101), ""), 0, api.ErrLarge},
		{[]string{""}, 0, api.ErrForm},
		{[]string{"a", "a b"}, 0, api.ErrForm},
		{[]string{"#", "a"}, 0, api.ErrForm},
		{[]string{"x", ""}, 0, api.ErrForm},
		{[]string{"x", "aaaaaaaaaaa"}, 0, api.ErrMissing},
		{[]string{"aaaaaaaaaaa", "hhh"}, 0, api.ErrMissing},
		{[]string{"aaaaaaaaaaa", "aaa"}, 0, api.ErrNone},
		{repeated("aaaaaaaaaa", 5), 5, api.OK},
		{repeated("aaaaaaaaaa", 6), 0, api.ErrStock},
		{repeated("a", 60), 0, api.ErrNone},
		{repeated("bcbca", 100), 0, api.ErrLarge},
	} {
		got, e := shop.CanSet(plain(), readingLog(), x.words)
		want(t, fmt.Sprint("CanSet of ", x.words), got, e, x.lines, x.e)
	}
	got, e := shop.CanSet(plain(), nil, []string{"a"})
	want(t, "CanSet in the beginning", got, e, 0, api.ErrStock)
	full := append([]string{"cast a 1 sp 9"}, repeated("cast b 1", 59)...)
	got, e = shop.CanSet(plain(), full, []string{"a"})
	want(t, "CanSet with a full log", got, e, 1, api.OK)
}

// narrow is a plain shop whose lines have two sorts, manyLines the words of a page with 146 lines.
func narrow() api.ShopSetup {
	return changed(plain(), func(s *api.ShopSetup) { s.Paragraph.Measure, s.Metal = 200, 100000000 })
}

func manyLines() string { return spread(repeated("bca", 73)...) }

// P10.2, P10.4: a page may have more lines than package page takes.
func TestManyLines(t *testing.T) {
	log := logOf(t, narrow(), "cast a 100 b 100 c 100 sp 20 hy 100", "set p "+manyLines())
	p := pageOf(t, narrow(), log, "p")
	want(t, "the lines", []int{len(p.Lines), p.Set}, api.OK, []int{146, 292}, api.OK)
	read, e := shop.ReadPage(narrow(), log, "p")
	want(t, "ReadPage", read, e, repeated("bca", 73), api.OK)
	moves, e := shop.Moves(narrow(), log, [2]string{"p", "out 0 72 bca"})
	want(t, "Moves", moves, e, [2][]int{{plainA, plainB, plainC, plainHyphen}, nil}, api.OK)
	log = append(log, "distribute p", "set q bca", "distribute q")
	names, e := shop.Together(narrow(), log)
	want(t, "Together", names, e, []string{"p", "q"}, api.OK)
	names, e = shop.Together(narrow(), append(log, "worn b 27"))
	want(t, "Together with fewer sorts", names, e, []string{"p"}, api.OK)
	lines, e := shop.CanSet(narrow(), log, repeated("bca", 100))
	want(t, "CanSet", lines, e, 200, api.OK)
}

// P10.4: which sorts a correction moves.
func TestMoves(t *testing.T) {
	log := readingLog()
	full := append(slices.Clone(log), repeated("cast a 1", 60-len(log))...)
	for _, x := range []struct {
		page, mark string
		moves      [2][]int
		e          api.Errno
	}{
		{"p", "in 0 2 fi", [2][]int{{plainSpace}, {plainLigature}}, api.OK},
		{"p", "change 0 0 aaaa bcba", [2][]int{{plainA, plainA, plainA}, {plainB, plainB, plainC}}, api.OK},
		{"p", "out 0 0 aaaa", [2][]int{{plainA, plainA, plainA, plainA, plainSpace, plainSpace, plainSpace, plainSpace, plainSpace, plainHyphen}, nil}, api.OK},
		{"p", "in 0 1 fi", [2][]int{}, api.ErrNone},
		{"p", "in 0 0 x", [2][]int{}, api.ErrMissing},
		{"p", "out 0 0 a", [2][]int{}, api.ErrClash},
		{"p", "break 0 1 1", [2][]int{}, api.ErrKind},
		{"p", "mend 0 1", [2][]int{}, api.ErrSyntax},
		{"p", "", [2][]int{}, api.ErrSyntax},
		{"p", "in 0 2 fi\n", [2][]int{}, api.ErrSyntax},
		{"p", "in 0 101 fi", [2][]int{}, api.ErrRange},
		{"p", "in 0 2 " + letters(283), [2][]int{}, api.ErrForm},
		{"p", "in 0 2 " + letters(284), [2][]int{}, api.ErrLarge},
		{"1", "in 0 2 " + letters(300), [2][]int{}, api.ErrName},
		{"", "in 0 2 fi", [2][]int{}, api.ErrName},
		{"p in", "0 2 fi", [2][]int{}, api.ErrName},
		{"p ", "in 0 2 fi", [2][]int{}, api.ErrName},
		{"x", "in 0 2 fi", [2][]int{}, api.ErrMissing},
		{"f", "in 0 2 fi", [2][]int{}, api.ErrMissing},
		{"q", "in 0 2 fi", [2][]int{}, api.ErrBusy},
		{"r", "in 0 1 fi", [2][]int{}, api.ErrState},
	} {
		for _, log := range [][]string{log, full} {
			moves, e := shop.Moves(plain(), log, [2]string{x.page, x.mark})
			want(t, "Moves of "+x.page+" by "+x.mark, moves, e, x.moves, x.e)
		}
	}
}

// P10.4: the sorts of a page that are compared are 300 at most.
func TestMovesOfManySorts(t *testing.T) {
	log := logOf(t, plain(), "cast a 200 sp 200", "set p "+spread(repeated("aa", 90)...), "set q aa")
	moves, e := shop.Moves(plain(), log, [2]string{"p", "swap 0 0"})
	want(t, "Moves of 300 sorts", moves, e, [2][]int{}, api.OK)
	moves, e = shop.Moves(plain(), log, [2]string{"p", "in 0 0 aa"})
	want(t, "Moves to 310 sorts", moves, e, [2][]int{}, api.ErrLarge)
	log = append(log, "correct p in 0 0 aa")
	moves, e = shop.Moves(plain(), log, [2]string{"p", "out 0 0 aa"})
	want(t, "Moves of 310 sorts", moves, e, [2][]int{}, api.ErrLarge)
	moves, e = shop.Moves(plain(), log, [2]string{"p", "out 0 0 a"})
	want(t, "Moves of 310 sorts by a wrong mark", moves, e, [2][]int{}, api.ErrClash)
	logOf(t, plain(), append(log, "correct p out 0 0 aa")...)
}

// P10.4: which pages can be set at once.
func TestTogether(t *testing.T) {
	log := []string{"cast a 3 b 3 sp 30"}
	for _, page := range []string{"p aa", "q aa", "r a b", "s b"} {
		name, _, _ := strings.Cut(page, " ")
		log = append(log, "set "+page, "distribute "+name)
	}
	for _, x := range []struct {
		more   []string
		wanted []string
	}{
		{nil, []string{"p", "r", "s"}},
		{[]string{"again s"}, []string{"p", "r"}},
		{[]string{"worn b 3"}, []string{"p"}},
		{[]string{"worn a 1 b 1"}, []string{"p", "s"}},
		{[]string{"worn a 2"}, []string{"r", "s"}},
		{[]string{"worn sp 1"}, []string{"p", "r", "s"}},
		{[]string{"worn sp 5"}, []string{"p", "r", "s"}},
		{[]string{"worn sp 6"}, []string{"p", "r"}},
		{[]string{"worn sp 14"}, []string{"p", "r"}},
		{[]string{"worn sp 15"}, []string{"p"}},
		{[]string{"worn sp 23"}, nil},
		{[]string{"again p", "again r", "again s"}, nil},
		{[]string{"again p", "lock f p", "again s"}, []string{"r"}},
		{[]string{"cast a 9 b 9 sp 90"}, []string{"p", "q", "r", "s"}},
	} {
		names, e := shop.Together(plain(), append(slices.Clone(log), x.more...))
		want(t, fmt.Sprint("Together behind ", x.more), names, e, x.wanted, api.OK)
	}
	names, e := shop.Together(plain(), nil)
	want(t, "Together in the beginning", names, e, nil, api.OK)
	names, e = shop.Together(example(), exampleLog())
	want(t, "Together of the example", names, e, []string{"p"}, api.OK)
}

// P10.4: at most 12 pages are looked at, but those that cannot be set by themselves do not count.
func TestTogetherOfMany(t *testing.T) {
	log := []string{"cast a 20 b 1 sp 200"}
	var all []string
	for i := range 13 {
		name := "p" + string(rune('a'+i))
		if i == 4 {
			log = append(log, "set "+name+" a b")
		} else {
			log = append(log, "set "+name+" a")
			all = append(all, name)
		}
		log = append(log, "distribute "+name)
	}
	names, e := shop.Together(plain(), log)
	want(t, "Together of 13 pages", names, e, nil, api.ErrLarge)
	names, e = shop.Together(plain(), append(log, "worn b 1"))
	want(t, "Together of 12 pages", names, e, all, api.OK)
	names, e = shop.Together(plain(), append(log, "again pc"))
	want(t, "Together of 12 pages, one of which stands", names, e, slices.Insert(slices.DeleteFunc(slices.Clone(all), func(s string) bool { return s == "pc" }), 3, "pe"), api.OK)
}

// P10.4: made logs; the pages that can be set at once are found among all sets of pages, and what each
// one needs by setting it again.
func TestMadeTogether(t *testing.T) {
	several := 0
	for seed := range int64(120) {
		m := newMaker(1000 + seed)
		log, _ := madeLog(t, m, rich(), 30, seen{})
		for _, p := range stateOf(t, rich(), log).Pages {
			if longer, e := shop.Accept(rich(), log, "distribute "+p.Name); e == api.OK && m.Intn(3) > 0 {
				log = longer
			}
		}
		if m.Intn(2) == 0 {
			if longer, e := shop.Accept(rich(), log, "worn "+m.counted(rich().Fount, 25)); e == api.OK {
				log = longer
			}
		}
		wanted := together(t, rich(), log)
		names, e := shop.Together(rich(), log)
		want(t, fmt.Sprintf("Together behind %q", log), names, e, wanted, api.OK)
		if len(wanted) > 1 {
			several++
		}
	}
	if several < 10 {
		t.Errorf("%d logs alone with several pages", several)
	}
}

// together is the greatest set of pages that can be set at once, of several ones the first one.
func together(t *testing.T, s api.ShopSetup, log []string) []string {
	t.Helper()
	state := stateOf(t, s, log)
	var names []string
	var needs [][]int
	for _, p := range state.Pages {
		if longer, e := shop.Accept(s, log, "again "+p.Name); e == api.OK {
			behind := stateOf(t, s, longer)
			need := slices.Clone(state.Case)
			for sort := range need {
				need[sort] -= behind.Case[sort]
			}
			names, needs = append(names, p.Name), append(needs, need)
		}
	}
	var best []int
	for set := range 1 << len(names) {
		var pages []int
		left := slices.Clone(state.Case)
		for i := range names {
			if set>>i&1 == 1 {
				pages = append(pages, i)
				for sort, n := range needs[i] {
					left[sort] -= n
				}
			}
		}
		if slices.Min(left) >= 0 && (len(pages) > len(best) || len(pages) == len(best) && slices.Compare(pages, best) < 0) {
			best = pages
		}
	}
	var found []string
	for _, i := range best {
		found = append(found, names[i])
	}
	return found
}
