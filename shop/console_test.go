package shop_test

import (
	"fmt"
	"slices"
	"strconv"
	"strings"
	"testing"

	"tympan/api"
	"tympan/shop"
)

// said is a line of the console, and what is written then.
type said struct{ line, written string }

// wantSaid fails the test if lines that leave the log as it is are not answered as they must be.
func wantSaid(t *testing.T, s api.ShopSetup, log []string, l ...said) {
	t.Helper()
	for _, x := range l {
		got, written := shop.Do(s, log, x.line)
		want(t, fmt.Sprintf("Do %q", x.line), written, api.OK, x.written, api.OK)
		want(t, fmt.Sprintf("the log behind %q", x.line), got, api.OK, log, api.OK)
	}
}

// P10.7: the examples of the chapter, line by line.
func TestConsoleOfExamples(t *testing.T) {
	s := example()
	var log []string
	for _, x := range []said{
		{"do cast a 5 thick 6", "1"},
		{"do set p a a a", "error 12"},
		{"do set p a a", "2"},
		{"where a", "3 2 0 0"},
		{"do set q a", "error 12"},
		{"do correct p in 0 2 a", "error 12"},
		{"do correct p out 0 1 a", "error 12"},
		{"copy p", "a a"},
		{"do lock f p", "3"},
		{"where a", "3 0 2 0"},
		{"do print f 100", "4"},
		{"do unlock f", "5"},
		{"read p", "a a"},
		{"do distribute p", "6"},
		{"read p", "error 24"},
		{"query state distributed", "p"},
		{"where thick", "6 0 0 0"},
		{"do worn a 1", "7"},
		{"where a", "4 0 0 1"},
		{"do melt a 1", "8"},
	} {
		before := log
		longer, written := shop.Do(s, log, x.line)
		want(t, x.line, written, api.OK, x.written, api.OK)
		if entry, isDo := strings.CutPrefix(x.line, "do "); isDo && !strings.HasPrefix(x.written, "error") {
			before = append(before, entry)
		}
		want(t, "the log behind "+x.line, longer, api.OK, before, api.OK)
		log = longer
	}
	state := stateOf(t, s, log)
	want(t, "the metal", state.Metal, api.OK, 9976000, api.OK)
	want(t, "the case", state.Case, api.OK, []int{4, 0, 0, 6, 0, 0}, api.OK)
	want(t, "the metal behind the first entry", stateOf(t, s, log[:1]).Metal, api.OK, 9973000, api.OK)
	total, metal, e := shop.Total(s, log)
	want(t, "Total", total, e, []int{4, 0, 0, 6, 0, 0}, api.OK)
	want(t, "all metal", metal, e, 10000000, api.OK)
}

// P10.7: answers.
func TestConsole(t *testing.T) {
	log := askedLog()
	journal, e := shop.Journal(log)
	wantError(t, "Journal", e, api.OK)
	wantSaid(t, plain(), log,
		said{"where a", "48 10 2 0"},
		said{"where mark", "5 0 0 0"},
		said{"read p", "aaaa aaabcaa"},
		said{"read q", "a b"},
		said{"copy p", "aaaa aaabcaa"},
		said{"copy r", "c"},
		said{"query ", "p q r t s"},
		said{"query state locked", "q t"},
		said{"query state locked word a printed 1", "q"},
		said{"query printed 101", "none"},
		said{"query word ", "none"},
		said{"journal", strconv.Itoa(len(journal))},
	)
	wantSaid(t, plain(), nil, said{"journal", "0"}, said{"query ", "none"}, said{"where a", "0 0 0 0"})
	longer, written := shop.Do(plain(), log, "do again r")
	want(t, "do again r", written, api.OK, strconv.Itoa(len(log)+1), api.OK)
	want(t, "the log behind do again r", longer, api.OK, append(log, "again r"), api.OK)
}

// P10.7: errors are written with their numbers, and the log is as before.
func TestErrorsOfConsole(t *testing.T) {
	log := askedLog()
	wantSaid(t, plain(), log,
		said{"", "error 7"},
		said{" ", "error 7"},
		said{"do", "error 7"},
		said{"do ", "error 7"},
		said{"do  again r", "error 15"},
		said{"do again", "error 7"},
		said{"do mend r", "error 15"},
		said{"do again p", "error 24"},
		said{"do again r\n", "error 7"},
		said{"do set u " + letters(300), "error 8"},
		said{"do cast ", "error 11"},
		said{"Do again r", "error 7"},
		said{" do again r", "error 7"},
		said{"again r", "error 7"},
		said{"where", "error 7"},
		said{"where ", "error 6"},
		said{"where  a", "error 6"},
		said{"where a ", "error 6"},
		said{"where x", "error 6"},
		said{"read", "error 7"},
		said{"read ", "error 6"},
		said{"read x", "error 6"},
		said{"read r", "error 24"},
		said{"read p q", "error 6"},
		said{"copy", "error 7"},
		said{"copy ", "error 6"},
		said{"copy f", "error 6"},
		said{"query", "error 7"},
		said{"query  ", "error 7"},
		said{"query state", "error 7"},
		said{"query state locked state locked", "error 5"},
		said{"query forme 1", "error 4"},
		said{"journal ", "error 7"},
		said{"journal p", "error 7"},
		said{"journal\n", "error 7"},
		said{"mend p", "error 7"},
		said{"state", "error 7"},
	)
	full := repeated("cast a 1", 60)
	wantSaid(t, plain(), full, said{"do cast a 1", "error 16"}, said{"do ", "error 16"}, said{"where a", "60 0 0 0"})
}

// P10.7, P10.12: "do" is Accept, and the other lines are the functions, also on made logs.
func TestMadeConsole(t *testing.T) {
	for seed := range int64(30) {
		m := newMaker(3000 + seed)
		log, at := madeLog(t, m, rich(), 40, seen{})
		for range 20 {
			entry := m.entry(rich().Fount, at.copies())
			longer, e := shop.Accept(rich(), log, entry)
			got, written := shop.Do(rich(), log, "do "+entry)
			if e == api.OK {
				want(t, "do "+entry, written, api.OK, strconv.Itoa(len(longer)), api.OK)
				want(t, "the log behind do "+entry, got, api.OK, longer, api.OK)
			} else {
				want(t, "do "+entry, written, api.OK, fmt.Sprint("error ", int(e)), api.OK)
				want(t, "the log behind do "+entry, got, api.OK, log, api.OK)
			}
		}
		for _, p := range at.pages {
			wantSaid(t, rich(), log, said{"copy " + p.Name, spread(p.Words...)})
			if p.Standing {
				wantSaid(t, rich(), log, said{"read " + p.Name, spread(p.Words...)})
			}
		}
		for sort, s := range rich().Fount.Sorts {
			where := []int{0, 0, 0, 0}
			for _, x := range at.pieces {
				if x.sort != sort {
					continue
				}
				i := slices.Index([]string{inCase, "", "", isDead}, x.place)
				if i < 0 {
					i = 1
					if at.page(x.place).Forme != "" {
						i = 2
					}
				}
				where[i]++
			}
			wantSaid(t, rich(), log, said{"where " + s.Name, strings.Trim(fmt.Sprint(where), "[]")})
		}
		journal, _ := shop.Journal(log)
		wantSaid(t, rich(), log, said{"journal", strconv.Itoa(len(journal))})
	}
}
