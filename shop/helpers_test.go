package shop_test

import (
	"maps"
	"math/rand"
	"reflect"
	"slices"
	"strconv"
	"strings"
	"testing"

	"tympan/api"
	"tympan/shop"
)

// great is a number that no limit allows, small the least one of all.
const (
	great = 1<<63 - 1
	small = -great - 1
)

// alike tells whether two values are equal, if a nil slice and an empty one are the same.
func alike(a, b any) bool {
	return alikeValues(reflect.ValueOf(a), reflect.ValueOf(b))
}

func alikeValues(a, b reflect.Value) bool {
	switch a.Kind() {
	case reflect.Slice, reflect.Array:
		if a.Len() != b.Len() {
			return false
		}
		for i := range a.Len() {
			if !alikeValues(a.Index(i), b.Index(i)) {
				return false
			}
		}
		return true
	case reflect.Struct:
		for i := range a.NumField() {
			if !alikeValues(a.Field(i), b.Field(i)) {
				return false
			}
		}
		return true
	}
	return a.Interface() == b.Interface()
}

// want fails the test if a result with an error is not the one that is wanted.
func want[T any](t *testing.T, what string, got T, e api.Errno, wanted T, wantError api.Errno) {
	t.Helper()
	if e != wantError || !alike(got, wanted) {
		t.Errorf("%s: %v, error %d, want %v, error %d", what, got, e, wanted, wantError)
	}
}

// wantError fails the test if an error is not the one that is wanted.
func wantError(t *testing.T, what string, e, wanted api.Errno) {
	t.Helper()
	if e != wanted {
		t.Errorf("%s: error %d, want %d", what, e, wanted)
	}
}

// changed is a value with a change.
func changed[T any](x T, change func(x *T)) T {
	change(&x)
	return x
}

func letter(name, text string, width int) api.TypeSort {
	return api.TypeSort{Name: name, Text: text, Kind: api.SortLetter, Width: width}
}

func ligature(text string, width int) api.TypeSort {
	return api.TypeSort{Name: text, Text: text, Kind: api.SortLigature, Width: width}
}

func space(name string, width int) api.TypeSort {
	return api.TypeSort{Name: name, Kind: api.SortSpace, Width: width}
}

// example is the shop of the examples: its sorts are a, b, fi, thick, thin, hy.
func example() api.ShopSetup {
	sorts := []api.TypeSort{letter("a", "a", 300), letter("b", "b", 330), ligature("fi", 360), space("thick", 200), space("thin", 120), letter("hy", "-", 100)}
	return api.ShopSetup{
		Fount:     api.Fount{Name: "rom", Body: 10, Sorts: sorts},
		Text:      api.TextRules{Left: 1, Right: 1},
		Paragraph: api.ParagraphRules{Measure: 1400, Least: 120, Most: 400, Gap: 3, Hyphen: 5, Single: 50, Double: 100},
		Metal:     10000000,
	}
}

// exampleLog is a log of the examples.
func exampleLog() []string {
	return []string{"cast a 5 thick 6", "set p a a", "lock f p", "print f 100", "unlock f", "distribute p"}
}

// The sorts of the plain shop.
const (
	plainA = iota
	plainB
	plainC
	plainLigature
	plainSpace
	plainHyphen
	plainMark
	plainSorts
)

// plain is a shop in which all sorts have a width of 100 units and a metal of 1000, and each line has
// ten of them. Words may be divided between b and c.
func plain() api.ShopSetup {
	sorts := []api.TypeSort{letter("a", "a", 100), letter("b", "b", 100), letter("c", "c", 100), ligature("fi", 100), space("sp", 100), letter("hy", "-", 100), letter("mark", "#", 100)}
	return api.ShopSetup{
		Fount:     api.Fount{Name: "plain", Body: 10, Sorts: sorts},
		Text:      api.TextRules{Patterns: []string{"b1c"}, Left: 1, Right: 1},
		Paragraph: api.ParagraphRules{Measure: 1000, Least: 100, Most: 300, Gap: plainSpace, Hyphen: plainHyphen},
		Metal:     1000000,
	}
}

// counts is counts of the sorts of the plain shop: pairs of a sort and its count.
func counts(pairs ...int) []int {
	l := make([]int, plainSorts)
	for i := 0; i < len(pairs); i += 2 {
		l[pairs[i]] = pairs[i+1]
	}
	return l
}

// plainLine is a line of the plain shop: its sorts by letters, a blank for a space.
func plainLine(sorts string) api.TypeLine {
	l := api.TypeLine{Measure: 1000}
	for i := range len(sorts) {
		l.Sorts = append(l.Sorts, strings.IndexByte("abcf -#", sorts[i]))
	}
	return l
}

// logOf is a log of entries, each of which must be accepted behind those before it.
func logOf(t *testing.T, s api.ShopSetup, entries ...string) []string {
	t.Helper()
	var log []string
	for _, entry := range entries {
		longer, e := shop.Accept(s, log, entry)
		if e != api.OK {
			t.Fatalf("%q behind %q: error %d", entry, log, e)
		}
		log = longer
	}
	return log
}

// stateOf is the state of a log, which must have one.
func stateOf(t *testing.T, s api.ShopSetup, log []string) api.ShopState {
	t.Helper()
	state, number, e := shop.StateOf(s, log)
	want(t, "StateOf", number, e, len(log), api.OK)
	return state
}

// pageOf is the page with a name, which must be there.
func pageOf(t *testing.T, s api.ShopSetup, log []string, name string) api.ShopPage {
	t.Helper()
	for _, p := range stateOf(t, s, log).Pages {
		if p.Name == name {
			return p
		}
	}
	t.Fatalf("no page %s behind %q", name, log)
	return api.ShopPage{}
}

// readingLog is a log of the plain shop with the pages p (standing), q (locked in f) and r
// (distributed).
func readingLog() []string {
	return []string{"cast a 60 b 20 c 20 fi 5 sp 60 hy 5 mark 5", "set p aaaa aaabcaa", "set q a b", "set r c", "lock f q", "distribute r"}
}

// repeated is a word so many times.
func repeated(word string, times int) []string {
	return slices.Repeat([]string{word}, times)
}

// letters is so many letters a.
func letters(count int) string {
	return strings.Repeat("a", count)
}

// spread is words with single blanks between.
func spread(words ...string) string {
	return strings.Join(words, " ")
}

// maker makes what the functions take, the same in every run.
type maker struct{ *rand.Rand }

func newMaker(seed int64) maker {
	return maker{rand.New(rand.NewSource(seed))}
}

// from makes a number from lo to hi.
func (m maker) from(lo, hi int) int {
	return lo + m.Intn(hi-lo+1)
}

func oneOf[T any](m maker, l ...T) T {
	return l[m.Intn(len(l))]
}

// rich is a shop in which most words can be set in many ways, if the case is full enough.
func rich() api.ShopSetup {
	sorts := []api.TypeSort{
		letter("a", "a", 310), letter("b", "b", 340), ligature("ab", 600), letter("c", "c", 260),
		space("hair", 10), space("thin", 30), space("mid", 90), space("thick", 200), space("quad", 600),
		letter("hy", "-", 120),
	}
	return api.ShopSetup{
		Fount:     api.Fount{Name: "rich", Body: 12, Sorts: sorts},
		Text:      api.TextRules{Patterns: []string{"a1b", "1c", "c2a"}, Bars: []string{"ca|b"}, Left: 1, Right: 1},
		Paragraph: api.ParagraphRules{Measure: 2400, Indent: 290, Least: 90, Most: 700, Gap: 7, Hyphen: 9, Single: 50, Double: 100},
		Metal:     100000000,
	}
}

// fullCase is what a case needs that can set most pages of the rich shop.
const fullCase = "a 60 b 60 ab 30 c 60 hair 90 thin 60 mid 60 thick 60 quad 20 hy 20"

// word makes a word that the rich shop can mostly set.
func (m maker) word() string {
	if m.Intn(40) == 0 {
		return oneOf(m, "x", "#", "aaaaaaaaaaaa", "-", "ca^b")
	}
	var w strings.Builder
	for range m.from(1, 5) {
		w.WriteByte("abc"[m.Intn(3)])
	}
	return w.String()
}

func (m maker) words(most int) string {
	var words []string
	for range m.from(1, most) {
		words = append(words, m.word())
	}
	return spread(words...)
}

// page makes the name of one of few pages, forme that of one of few formes.
func (m maker) page() string {
	return "p" + strconv.Itoa(m.Intn(4))
}

func (m maker) forme() string {
	return "f" + strconv.Itoa(m.Intn(2))
}

// counted makes a text of a case of a fount.
func (m maker) counted(f api.Fount, most int) string {
	var words []string
	for _, s := range f.Sorts {
		if m.Intn(3) > 0 {
			words = append(words, s.Name, strconv.Itoa(m.from(1, most)))
		}
	}
	return spread(words...)
}

// mark makes a text of a mark for some words.
func (m maker) mark(words []string) string {
	at := m.Intn(len(words) + 1)
	old := spread(words[min(at, len(words)-1)])
	place := "0 " + strconv.Itoa(at)
	switch m.Intn(9) {
	case 0, 1:
		return spread("out", place, oneOf(m, old, old, old, m.word()))
	case 2, 3:
		return spread("in", place, m.word())
	case 4, 5:
		return spread("change", place, old, m.word())
	case 6:
		return spread("swap", place)
	case 7:
		return spread(oneOf(m, "break", "join"), place, oneOf(m, "1", "2"))
	}
	return oneOf(m, "turn 0 1 2", "turn 0 2 1", "out 1 0 a", "", "out 0 0", "in 0 0 #")
}

// entry makes an entry for a shop whose pages have some words.
func (m maker) entry(f api.Fount, copies map[string][]string) string {
	name := m.page()
	if names := slices.Sorted(maps.Keys(copies)); len(names) > 0 && m.Intn(8) > 0 {
		name = oneOf(m, names...)
	}
	words := copies[name]
	if words == nil {
		words = []string{"a"}
	}
	switch m.Intn(18) {
	case 0, 1:
		return "cast " + m.counted(f, 40)
	case 2, 3, 4:
		return spread("set", m.page(), m.words(9))
	case 5, 6, 7:
		return spread("correct", name, m.mark(words))
	case 8, 9:
		return oneOf(m, spread("lock", m.forme(), name), spread("lock", m.forme(), name, m.page()))
	case 10, 11:
		return spread("print", m.forme(), strconv.Itoa(m.from(-1, 100)))
	case 12:
		return "unlock " + m.forme()
	case 13:
		return "distribute " + name
	case 14:
		return "again " + name
	case 15:
		return "worn " + m.counted(f, oneOf(m, 2, 30))
	case 16:
		return "melt " + m.counted(f, 2)
	}
	return oneOf(m, "", "again", "cast ", "cast a", "set p0", "set  a", "lock f0", "print f0", "unlock 0", "mend p0", "cast a 1\n", "worn z 1", strings.Repeat("x ", 200))
}
