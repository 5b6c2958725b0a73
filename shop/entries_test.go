package shop_test

import (
	"slices"
	"testing"

	"tympan/api"
	"tympan/shop"
)

// refusal is an entry with the error with which it is refused.
type refusal struct {
	entry string
	e     api.Errno
}

// wantRefused fails the test if an entry is not refused behind a log as it must be.
func wantRefused(t *testing.T, s api.ShopSetup, log []string, l ...refusal) {
	t.Helper()
	for _, r := range l {
		longer, e := shop.Accept(s, log, r.entry)
		want(t, "Accept of "+r.entry, longer, e, nil, r.e)
		state, number, e := shop.StateOf(s, append(slices.Clone(log), r.entry, "never looked at"))
		want(t, "StateOf behind "+r.entry, number, e, len(log), r.e)
		want(t, "the state behind "+r.entry, state, e, api.ShopState{}, r.e)
	}
}

// badNames are texts that are no names; without blanks, and with some.
func badNames() []string {
	return []string{"1", "-a", "abcdefghijklm", "a.", "ä", "a\t", "\x00"}
}

func blankNames() []string {
	return append(badNames(), "", " ", "p ", " p", "p q", "p  q")
}

// P10.2: texts of entries with errors, in the order of the table.
func TestErrorsOfTexts(t *testing.T) {
	long := func(entry string, bytes int) string { return entry + letters(bytes-len(entry)) }
	wantRefused(t, plain(), readingLog(),
		refusal{long("mend ", 301), api.ErrLarge},
		refusal{long("mend\n", 301), api.ErrLarge},
		refusal{long("", 301), api.ErrLarge},
		refusal{long("mend ", 300), api.ErrKind},
		refusal{long("", 300), api.ErrSyntax},
		refusal{"", api.ErrSyntax},
		refusal{"cast", api.ErrSyntax},
		refusal{"set", api.ErrSyntax},
		refusal{"again", api.ErrSyntax},
		refusal{"distribute\tp", api.ErrSyntax},
		refusal{"again r\n", api.ErrSyntax},
		refusal{"again\n", api.ErrSyntax},
		refusal{"mend p\n", api.ErrSyntax},
		refusal{"\nagain r", api.ErrSyntax},
		refusal{" ", api.ErrKind},
		refusal{" again r", api.ErrKind},
		refusal{"Again r", api.ErrKind},
		refusal{"agai r", api.ErrKind},
		refusal{"mend p", api.ErrKind},
		refusal{"do again r", api.ErrKind},
	)
}

// P10.2: the entries that are cases.
func TestErrorsOfCases(t *testing.T) {
	log := append(readingLog(), "worn a 1")
	for _, word := range []string{"cast ", "worn ", "melt "} {
		wantRefused(t, plain(), log,
			refusal{word, api.ErrZero},
			refusal{word + " ", api.ErrSyntax},
			refusal{word + "a", api.ErrSyntax},
			refusal{word + "a 1 ", api.ErrSyntax},
			refusal{word + " a 1", api.ErrSyntax},
			refusal{word + "a  1", api.ErrSyntax},
			refusal{word + "z 1", api.ErrMissing},
			refusal{word + "b 1 a 1", api.ErrOrder},
			refusal{word + "a 1 a 1", api.ErrOrder},
			refusal{word + "a x", api.ErrSyntax},
			refusal{word + "a -1", api.ErrSyntax},
			refusal{word + "a 0", api.ErrRange},
			refusal{word + "a 1000001", api.ErrRange},
		)
		logOf(t, plain(), append(log, word+"a 1")...)
	}
}

// P10.2: the entries with names and words.
func TestErrorsOfNames(t *testing.T) {
	var l []refusal
	for _, name := range badNames() {
		l = append(l,
			refusal{"set " + name + " a", api.ErrName},
			refusal{"set " + name + " \x00", api.ErrName},
			refusal{"set " + name, api.ErrSyntax},
			refusal{"set " + name + " ", api.ErrSyntax},
			refusal{"correct " + name + " swap 0 0", api.ErrName},
			refusal{"correct " + name + " mend 0 0", api.ErrName},
			refusal{"correct " + name, api.ErrSyntax},
			refusal{"lock " + name + " p", api.ErrName},
			refusal{"lock g " + name, api.ErrName},
			refusal{"lock f p " + name, api.ErrName},
			refusal{"lock " + name, api.ErrSyntax},
			refusal{"print " + name + " 5", api.ErrName},
			refusal{"print " + name + " 0", api.ErrName},
			refusal{"print " + name, api.ErrSyntax},
			refusal{"print " + name + " x", api.ErrSyntax},
		)
	}
	for _, name := range blankNames() {
		for _, word := range []string{"unlock ", "distribute ", "again "} {
			l = append(l, refusal{word + name, api.ErrName})
		}
	}
	wantRefused(t, plain(), readingLog(), l...)
	for _, name := range []string{"abcdefghij-9", "Z", "z--"} {
		logOf(t, plain(), "cast a 1 sp 9", "set "+name+" a", "lock "+name+" "+name, "print "+name+" 1", "unlock "+name, "distribute "+name, "again "+name)
	}
}

// P10.2: the words of an entry "set".
func TestErrorsOfSet(t *testing.T) {
	words := func(word string, count int) string { return "set s " + spread(repeated(word, count)...) }
	wantRefused(t, plain(), readingLog(),
		refusal{"set ", api.ErrSyntax},
		refusal{"set s", api.ErrSyntax},
		refusal{"set s ", api.ErrSyntax},
		refusal{"set  ", api.ErrSyntax},
		refusal{"set s  a", api.ErrSyntax},
		refusal{"set s a ", api.ErrSyntax},
		refusal{"set s a  a", api.ErrSyntax},
		refusal{"set 1 a  a", api.ErrSyntax},
		refusal{"set  a", api.ErrName},
		refusal{words("a", 101), api.ErrLarge},
		refusal{"set s # a", api.ErrForm},
		refusal{"set s ^", api.ErrForm},
		refusal{"set s a\ta", api.ErrForm},
		refusal{"set s a \x7f", api.ErrForm},
		refusal{"set s " + letters(31), api.ErrForm},
		refusal{"set p # a", api.ErrForm},
		refusal{"set p a", api.ErrExists},
		refusal{"set q a", api.ErrExists},
		refusal{"set r a", api.ErrExists},
		refusal{"set p x", api.ErrExists},
		refusal{"set s x", api.ErrMissing},
		refusal{"set s " + letters(11), api.ErrNone},
		refusal{"set s " + letters(11) + " x", api.ErrMissing},
		refusal{"set s aaa aaa aaaaa", api.ErrNone},
		refusal{"set s mark", api.ErrMissing},
	)
	logOf(t, plain(), append(readingLog(), "set s a #")...)
	logOf(t, plain(), "cast a 100 sp 300", words("a", 100))
}

// P10.2: words that cannot be set with the case, though with another one.
func TestErrorsOfSetting(t *testing.T) {
	wantRefused(t, plain(), []string{"cast a 2 sp 20"}, refusal{"set s aaa", api.ErrStock}, refusal{"set s a a b", api.ErrStock})
	logOf(t, plain(), "cast a 3 sp 20", "set s aaa")
	wantRefused(t, plain(), []string{"cast a 3 sp 6"}, refusal{"set s aaa", api.ErrNone})
	wantRefused(t, plain(), []string{"cast a 3"}, refusal{"set s a a a", api.ErrStock})
	wantRefused(t, plain(), []string{"cast a 60 b 60 c 60 sp 60"}, refusal{"set s aaaa aaabcaa", api.ErrStock})
	logOf(t, plain(), "cast a 60 b 60 c 60 sp 60 hy 1", "set s aaaa aaabcaa")
	// The first line can be set, the second one cannot.
	wantRefused(t, plain(), []string{"cast a 20 sp 3"}, refusal{"set s aaaa aaaa aa", api.ErrNone})
	logOf(t, plain(), "cast a 20 sp 10", "set s aaaa aaaa aa")
	many := plain()
	for i := range 8 {
		many.Fount.Sorts = append(many.Fount.Sorts, space("sp"+string(rune('a'+i)), 100))
	}
	wantRefused(t, many, []string{"cast a 9 sp 20"}, refusal{"set s a", api.ErrLarge})
}

// P10.2: casting takes metal, and leaves room for all sorts.
func TestErrorsOfCast(t *testing.T) {
	s := plain()
	s.Metal = 3000
	logOf(t, s, "cast a 3")
	logOf(t, s, "cast a 1 b 1", "cast c 1")
	wantRefused(t, s, nil, refusal{"cast a 4", api.ErrStock}, refusal{"cast a 2 b 2", api.ErrStock}, refusal{"cast a 1000000", api.ErrStock})
	wantRefused(t, s, []string{"cast a 2"}, refusal{"cast a 2", api.ErrStock})
	s.Metal = 1000000 * 1000
	logOf(t, s, "cast a 1000000")
	wantRefused(t, s, []string{"cast a 1000000"}, refusal{"cast a 1", api.ErrStock})
	s.Metal *= 10
	full := logOf(t, s, "cast a 1000000 sp 99")
	wantRefused(t, s, full, refusal{"cast a 1", api.ErrLarge}, refusal{"cast b 1 sp 1000000", api.ErrLarge}, refusal{"cast a 1000000 b 1000000 c 1000000 fi 1000000 sp 1000000 hy 1000000 mark 1000000", api.ErrLarge})
	logOf(t, s, append(full, "cast b 1000000")...)
	// Dead sorts, and those that stand, are in the shop; molten ones are not.
	full = append(full, "set p a aa", "worn a 5")
	wantRefused(t, s, full, refusal{"cast a 1", api.ErrLarge})
	full = append(full, "lock f p", "worn a 999992")
	wantRefused(t, s, full, refusal{"cast a 1", api.ErrLarge}, refusal{"worn a 1", api.ErrStock})
	full = append(full, "melt a 7")
	wantRefused(t, s, full, refusal{"cast a 8", api.ErrLarge})
	logOf(t, s, append(full, "cast a 7")...)
}

// P10.2: sorts become dead only if they are in the case, and metal only if they are dead.
func TestErrorsOfWornAndMelt(t *testing.T) {
	log := []string{"cast a 5 b 2 sp 20", "set p aa", "worn a 1"}
	wantRefused(t, plain(), log,
		refusal{"worn a 3", api.ErrStock},
		refusal{"worn a 2 c 1", api.ErrStock},
		refusal{"worn b 2 c 1", api.ErrStock},
		refusal{"melt a 2", api.ErrStock},
		refusal{"melt b 1", api.ErrStock},
		refusal{"melt a 1 b 1", api.ErrStock},
	)
	logOf(t, plain(), append(log, "worn a 2 b 2", "melt a 3")...)
}

// P10.2: corrections.
func TestErrorsOfCorrect(t *testing.T) {
	wantRefused(t, plain(), readingLog(),
		refusal{"correct ", api.ErrSyntax},
		refusal{"correct p", api.ErrSyntax},
		refusal{"correct p ", api.ErrSyntax},
		refusal{"correct  swap 0 0", api.ErrName},
		refusal{"correct p mend 0 0", api.ErrSyntax},
		refusal{"correct p  swap 0 0", api.ErrSyntax},
		refusal{"correct p swap 0 0 ", api.ErrSyntax},
		refusal{"correct p out 0 0 ", api.ErrForm},
		refusal{"correct p out 60 0 a", api.ErrRange},
		refusal{"correct p change 0 0 a a", api.ErrForm},
		refusal{"correct s out 60 0 a", api.ErrRange},
		refusal{"correct s out 0 0 a", api.ErrMissing},
		refusal{"correct r out 0 0 a", api.ErrState},
		refusal{"correct q out 0 0 c", api.ErrBusy},
		refusal{"correct q out 1 0 c", api.ErrBusy},
		refusal{"correct p out 1 0 a", api.ErrMissing},
		refusal{"correct p out 0 2 a", api.ErrMissing},
		refusal{"correct p out 0 1 a", api.ErrClash},
		refusal{"correct p join 0 2 1", api.ErrMissing},
		refusal{"correct p join 0 1 1", api.ErrMissing},
		refusal{"correct p break 0 1 1", api.ErrKind},
		refusal{"correct p break 0 2 1", api.ErrMissing},
		refusal{"correct p turn 0 1 2", api.ErrKind},
		refusal{"correct p turn 0 1 3", api.ErrKind},
		refusal{"correct p turn 0 2 1", api.ErrClash},
		refusal{"correct p in 0 0 #", api.ErrForm},
		refusal{"correct p in 0 0 x", api.ErrMissing},
		refusal{"correct p in 0 1 fi", api.ErrNone},
		refusal{"correct p change 0 0 aaaa ccccccccccc", api.ErrNone},
	)
	log := append(readingLog(), "correct p out 0 0 aaaa")
	wantRefused(t, plain(), log, refusal{"correct p out 0 0 aaabcaa", api.ErrShape})
	full := logOf(t, plain(), "cast a 100 sp 300", "set p "+spread(repeated("a", 100)...))
	wantRefused(t, plain(), full, refusal{"correct p in 0 0 a", api.ErrLarge})
}

// P10.2: a page is corrected with the sorts that it has itself, and with no others than those of the
// case.
func TestErrorsOfCorrectedSetting(t *testing.T) {
	log := logOf(t, plain(), "cast a 2 b 1 sp 8", "set p a b")
	wantRefused(t, plain(), log,
		refusal{"correct p in 0 0 b", api.ErrStock},
		refusal{"correct p in 0 0 c", api.ErrStock},
		refusal{"correct p out 0 0 a", api.ErrNone},
	)
	logOf(t, plain(), append(log, "correct p swap 0 0", "correct p change 0 1 a aa", "correct p change 0 1 aa a", "correct p in 0 2 a")...)
}

// P10.2: formes.
func TestErrorsOfFormes(t *testing.T) {
	log := append(readingLog(), "set s b", "set t c")
	wantRefused(t, plain(), log,
		refusal{"lock ", api.ErrSyntax},
		refusal{"lock f", api.ErrSyntax},
		refusal{"lock g ", api.ErrName},
		refusal{"lock  p", api.ErrName},
		refusal{"lock g p ", api.ErrName},
		refusal{"lock g p  s", api.ErrName},
		refusal{"lock f x", api.ErrExists},
		refusal{"lock f p", api.ErrExists},
		refusal{"lock g x", api.ErrMissing},
		refusal{"lock g p x", api.ErrMissing},
		refusal{"lock g x r", api.ErrMissing},
		refusal{"lock g r x", api.ErrState},
		refusal{"lock g p r q", api.ErrState},
		refusal{"lock g q r x", api.ErrBusy},
		refusal{"lock g q", api.ErrBusy},
		refusal{"lock g p p", api.ErrBusy},
		refusal{"lock g p s p x", api.ErrBusy},
		refusal{"print ", api.ErrSyntax},
		refusal{"print f", api.ErrSyntax},
		refusal{"print f ", api.ErrSyntax},
		refusal{"print f x", api.ErrSyntax},
		refusal{"print f 5 5", api.ErrSyntax},
		refusal{"print f  5", api.ErrSyntax},
		refusal{"print f 5 ", api.ErrSyntax},
		refusal{"print  5", api.ErrName},
		refusal{"print f 05", api.ErrSyntax},
		refusal{"print f +5", api.ErrSyntax},
		refusal{"print f -0", api.ErrSyntax},
		refusal{"print f 00000005", api.ErrSyntax},
		refusal{"print f 10000000", api.ErrSyntax},
		refusal{"print f -10000000", api.ErrSyntax},
		refusal{"print f 9999999", api.ErrRange},
		refusal{"print f 100001", api.ErrRange},
		refusal{"print f 0", api.ErrRange},
		refusal{"print f -5", api.ErrRange},
		refusal{"print g 0", api.ErrRange},
		refusal{"print g 1", api.ErrMissing},
		refusal{"print q 1", api.ErrMissing},
		refusal{"unlock g", api.ErrMissing},
		refusal{"unlock q", api.ErrMissing},
	)
	log = append(log, "print f 1", "print f 100000", "lock g s p t", "unlock f")
	wantRefused(t, plain(), logOf(t, plain(), log...), refusal{"print f 1", api.ErrMissing}, refusal{"unlock f", api.ErrMissing}, refusal{"distribute t", api.ErrBusy})
}

// P10.2: pages that are distributed, and set again.
func TestErrorsOfDistributed(t *testing.T) {
	wantRefused(t, plain(), readingLog(),
		refusal{"distribute x", api.ErrMissing},
		refusal{"distribute f", api.ErrMissing},
		refusal{"distribute r", api.ErrState},
		refusal{"distribute q", api.ErrBusy},
		refusal{"again x", api.ErrMissing},
		refusal{"again p", api.ErrState},
		refusal{"again q", api.ErrState},
	)
	log := append(readingLog(), "unlock f", "distribute q", "distribute p", "worn c 19")
	logOf(t, plain(), append(log, "again r", "again q")...)
	log = append(log, "worn c 1")
	wantRefused(t, plain(), log, refusal{"again r", api.ErrStock}, refusal{"again p", api.ErrStock})
	log = append(log, "worn sp 59")
	wantRefused(t, plain(), log, refusal{"again q", api.ErrNone})
	logOf(t, plain(), append(log, "cast sp 7", "again q")...)
}
