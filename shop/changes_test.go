package shop_test

import (
	"testing"

	"tympan/api"
	"tympan/shop"
)

// step is an entry, and how it changes the state.
type step struct {
	entry  string
	change func(s *api.ShopState)
}

// wantSteps fails the test if an entry is not accepted, or changes the state in another way.
func wantSteps(t *testing.T, s api.ShopSetup, wanted api.ShopState, steps ...step) {
	t.Helper()
	var log []string
	want(t, "the state in the beginning", stateOf(t, s, log), api.OK, wanted, api.OK)
	for _, x := range steps {
		longer, e := shop.Accept(s, log, x.entry)
		want(t, "Accept of "+x.entry, longer, e, append(log, x.entry), api.OK)
		log = longer
		x.change(&wanted)
		want(t, "the state behind "+x.entry, stateOf(t, s, log), api.OK, wanted, api.OK)
	}
}

// add adds to counts of sorts: pairs of a sort and its count.
func add(l []int, pairs ...int) {
	for i := 0; i < len(pairs); i += 2 {
		l[pairs[i]] += pairs[i+1]
	}
}

// P10.2: what each entry does.
func TestWhatEntriesDo(t *testing.T) {
	type state = *api.ShopState
	first := []api.TypeLine{plainLine("aaaa aaab-"), plainLine("caa       ")}
	anew := []api.TypeLine{plainLine("aaaa bb   ")}
	wantSteps(t, plain(), api.ShopState{Case: counts(), Dead: counts(), Metal: 1000000},
		step{"cast a 60 b 20 c 20 sp 60 hy 5", func(s state) {
			s.Case = counts(plainA, 60, plainB, 20, plainC, 20, plainSpace, 60, plainHyphen, 5)
			s.Metal -= 165000
		}},
		step{"set p aaaa aaabcaa", func(s state) {
			s.Pages = []api.ShopPage{{Name: "p", Words: []string{"aaaa", "aaabcaa"}, Standing: true, Lines: first, Broken: []bool{true, false}, Set: 20}}
			add(s.Case, plainA, -9, plainB, -1, plainC, -1, plainSpace, -8, plainHyphen, -1)
		}},
		step{"set a b", func(s state) {
			s.Pages = append(s.Pages, api.ShopPage{Name: "a", Words: []string{"b"}, Standing: true, Lines: []api.TypeLine{plainLine("b         ")}, Broken: []bool{false}, Set: 10})
			add(s.Case, plainB, -1, plainSpace, -9)
		}},
		step{"correct p change 0 1 aaabcaa bb", func(s state) {
			p := &s.Pages[0]
			p.Words, p.Lines, p.Broken, p.Set = []string{"aaaa", "bb"}, anew, []bool{false}, 30
			add(s.Case, plainA, 5, plainB, -1, plainC, 1, plainSpace, 4, plainHyphen, 1)
		}},
		step{"lock p a", func(s state) { s.Pages[1].Forme, s.Formes = "p", []string{"p"} }},
		step{"lock f p", func(s state) { s.Pages[0].Forme, s.Formes = "f", []string{"p", "f"} }},
		step{"print f 100000", func(s state) { s.Pages[0].Printed = 100000 }},
		step{"print f 1", func(s state) { s.Pages[0].Printed = 100001 }},
		step{"unlock p", func(s state) { s.Pages[1].Forme, s.Formes = "", []string{"f"} }},
		step{"distribute a", func(s state) {
			p := &s.Pages[1]
			p.Standing, p.Lines, p.Broken = false, nil, nil
			add(s.Case, plainB, 1, plainSpace, 9)
		}},
		step{"worn a 5 sp 9", func(s state) { add(s.Case, plainA, -5, plainSpace, -9); add(s.Dead, plainA, 5, plainSpace, 9) }},
		step{"worn a 1", func(s state) { add(s.Case, plainA, -1); add(s.Dead, plainA, 1) }},
		step{"melt a 2 sp 9", func(s state) { add(s.Dead, plainA, -2, plainSpace, -9); s.Metal += 11000 }},
		step{"cast fi 1 mark 2", func(s state) { add(s.Case, plainLigature, 1, plainMark, 2); s.Metal -= 3000 }},
		step{"unlock f", func(s state) { s.Pages[0].Forme, s.Formes = "", nil }},
		step{"again a", func(s state) {
			p := &s.Pages[1]
			p.Standing, p.Lines, p.Broken, p.Set = true, []api.TypeLine{plainLine("b         ")}, []bool{false}, 20
			add(s.Case, plainB, -1, plainSpace, -9)
		}},
		step{"lock f a p", func(s state) { s.Pages[0].Forme, s.Pages[1].Forme, s.Formes = "f", "f", []string{"f"} }},
		step{"print f 7", func(s state) { s.Pages[0].Printed, s.Pages[1].Printed = 100008, 7 }},
	)
}

// P10.2: a page is set with the spaces that the case has then.
func TestSetWithWhatTheCaseHas(t *testing.T) {
	s := example()
	log := logOf(t, s, "cast a 6 thick 12", "set p a a", "distribute p", "worn thick 9", "cast thin 4")
	wantRefused(t, s, log, refusal{"again p", api.ErrNone})
	log = logOf(t, s, append(log, "cast thin 1", "again p")...)
	want(t, "the lines", pageOf(t, s, log, "p").Lines, api.OK, []api.TypeLine{{Measure: 1400, Sorts: []int{0, 3, 0, 4, 4, 4, 4, 4}}}, api.OK)
	log = logOf(t, s, append(log, "distribute p", "cast thick 1", "again p")...)
	want(t, "the lines", pageOf(t, s, log, "p").Lines, api.OK, []api.TypeLine{{Measure: 1400, Sorts: []int{0, 3, 0, 3, 3, 3}}}, api.OK)
}

// P10.2: the indent, bars and exceptions of the rules count.
func TestSetByTheRules(t *testing.T) {
	s := plain()
	s.Paragraph.Indent = 200
	s.Text.Bars = []string{"f|i"}
	s.Text.Exceptions = []string{"aafi-caaaa"}
	s.Fount.Sorts[plainMark] = letter("f", "f", 100)
	s.Fount.Sorts = append(s.Fount.Sorts, letter("i", "i", 100))
	log := logOf(t, s, "cast a 60 b 20 c 20 fi 5 sp 60 hy 5 f 5 i 5", "set p fi aaficaaaa")
	lines := []api.TypeLine{
		{Measure: 1000, Sorts: []int{plainSpace, plainSpace, plainMark, plainMark + 1, plainSpace, plainSpace, plainA, plainA, plainLigature, plainHyphen}},
		{Measure: 1000, Sorts: []int{plainC, plainA, plainA, plainA, plainA, plainSpace, plainSpace, plainSpace, plainSpace, plainSpace}},
	}
	want(t, "the lines", pageOf(t, s, log, "p").Lines, api.OK, lines, api.OK)
	read, e := shop.ReadPage(s, log, "p")
	want(t, "ReadPage", read, e, []string{"fi", "aaficaaaa"}, api.OK)
}
