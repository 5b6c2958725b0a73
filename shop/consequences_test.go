package shop_test

import (
	"fmt"
	"testing"

	"tympan/api"
	"tympan/fount"
	"tympan/proof"
	"tympan/shop"
)

// madeLogs calls a function with made logs.
func madeLogs(t *testing.T, seed int64, logs, tries int, do func(m maker, log []string)) {
	t.Helper()
	for i := range logs {
		m := newMaker(seed + int64(i))
		log, _ := madeLog(t, m, rich(), tries, seen{})
		do(m, log)
	}
}

// P10.9: no sort is in two places, none is lost, and no metal either.
func TestNothingIsLost(t *testing.T) {
	s := rich()
	madeLogs(t, 5000, 25, 60, func(m maker, log []string) {
		cast := make([]int, len(s.Fount.Sorts))
		for n, entry := range log {
			for word, sign := range map[string]int{"cast ": 1, "melt ": -1} {
				if len(entry) < len(word) || entry[:len(word)] != word {
					continue
				}
				l, e := fount.ParseCase(s.Fount, entry[len(word):])
				wantError(t, entry, e, api.OK)
				for sort := range cast {
					cast[sort] += sign * l[sort]
				}
			}
			total, metal, e := shop.Total(s, log[:n+1])
			want(t, fmt.Sprintf("Total behind %q", log[:n+1]), total, e, cast, api.OK)
			want(t, fmt.Sprintf("all metal behind %q", log[:n+1]), metal, e, s.Metal, api.OK)
		}
		for sort, x := range s.Fount.Sorts {
			where, e := shop.WhereIs(s, log, x.Name)
			want(t, "all places of "+x.Name, where[0]+where[1]+where[2]+where[3], e, cast[sort], api.OK)
		}
	})
}

// P10.10: the words that are read back are those of the copy, and each line has the measure.
func TestReadBack(t *testing.T) {
	s := rich()
	standing, broken := 0, 0
	madeLogs(t, 6000, 60, 50, func(m maker, log []string) {
		for _, p := range stateOf(t, s, log).Pages {
			words, e := shop.CopyOf(s, log, p.Name)
			want(t, "CopyOf "+p.Name, words, e, p.Words, api.OK)
			read, e := shop.ReadPage(s, log, p.Name)
			if !p.Standing {
				want(t, "ReadPage of "+p.Name, read, e, nil, api.ErrState)
				continue
			}
			want(t, "ReadPage of "+p.Name, read, e, words, api.OK)
			standing++
			for i, l := range p.Lines {
				width, e := fount.WidthOf(s.Fount, l.Sorts)
				want(t, "the width of a line", []int{width, l.Measure}, e, []int{2400, 2400}, api.OK)
				if p.Broken[i] {
					broken++
				}
			}
		}
	})
	if standing < 60 || broken < 10 {
		t.Errorf("%d pages and %d broken lines alone", standing, broken)
	}
}

// P10.11: a page that is distributed just behind its setting can be set again at once, and then has the
// same lines, and the case is the same.
func TestSetAgain(t *testing.T) {
	s := rich()
	again := 0
	madeLogs(t, 7000, 60, 40, func(m maker, log []string) {
		log, e := shop.Accept(s, log, "set new "+m.words(9))
		if e != api.OK {
			return
		}
		again++
		before := stateOf(t, s, log)
		behind := stateOf(t, s, logOf(t, s, append(log, "distribute new", "again new")...))
		last := len(before.Pages) - 1
		before.Pages[last].Set *= 2
		want(t, "the state", behind, api.OK, before, api.OK)
	})
	if again < 20 {
		t.Errorf("%d pages alone", again)
	}
}

// P10.4, P10.11: a page that is corrected and corrected back has the words that it had; the sorts that
// a correction moves are the change of the case.
func TestCorrectedBack(t *testing.T) {
	s := rich()
	corrected := 0
	madeLogs(t, 8000, 60, 40, func(m maker, log []string) {
		for _, p := range stateOf(t, s, log).Pages {
			mark := m.mark(p.Words)
			longer, e := shop.Accept(s, log, "correct "+p.Name+" "+mark)
			moves, wanted := shop.Moves(s, log, [2]string{p.Name, mark})
			wantError(t, "Moves by "+mark, wanted, e)
			if e != api.OK {
				continue
			}
			counts := stateOf(t, s, log).Case
			for _, sort := range moves[0] {
				counts[sort]++
			}
			for _, sort := range moves[1] {
				counts[sort]--
			}
			want(t, "the case behind "+mark, stateOf(t, s, longer).Case, api.OK, counts, api.OK)
			x, e := proof.ParseMark(mark)
			wantError(t, mark, e, api.OK)
			back, e := proof.Inverse(x)
			wantError(t, mark, e, api.OK)
			if longer, e = shop.Accept(s, longer, "correct "+p.Name+" "+proof.FormatMark(back)); e == api.OK {
				words, e := shop.CopyOf(s, longer, p.Name)
				want(t, "the words corrected back", words, e, p.Words, api.OK)
				corrected++
			}
		}
	})
	if corrected < 20 {
		t.Errorf("%d pages alone", corrected)
	}
}

// P10.12: what is recovered from a beginning of a journal is a beginning of the log, which the shop
// accepts again.
func TestRecoveredLogs(t *testing.T) {
	madeLogs(t, 9000, 10, 60, func(m maker, log []string) {
		journal, e := shop.Journal(log)
		wantError(t, "Journal", e, api.OK)
		for range 20 {
			at := m.Intn(len(journal) + 1)
			read, bytes := shop.Recover(journal[:at])
			want(t, "the entries", read, api.OK, log[:len(read)], api.OK)
			want(t, "the bytes", journal[:bytes], api.OK, journalOf(read), api.OK)
			_, number, e := shop.StateOf(rich(), read)
			want(t, "StateOf the recovered log", number, e, len(read), api.OK)
		}
		read, bytes := shop.Recover(journal)
		want(t, "all entries", read, api.OK, log, api.OK)
		want(t, "all bytes", bytes, api.OK, len(journal), api.OK)
	})
}
