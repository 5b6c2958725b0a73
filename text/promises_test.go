package text_test

import (
	"fmt"
	"math/rand"
	"reflect"
	"slices"
	"strings"
	"testing"

	"tympan/api"
	"tympan/text"
)

// maker makes founts, rules, words and copy, the same ones in every run. Its words have few
// different letters, so that patterns, bars and ligatures are found in them.
type maker struct{ *rand.Rand }

func newMaker() maker {
	return maker{rand.New(rand.NewSource(2))}
}

const alphabet = "abcB-"

func (m maker) bytes(n int, of string) string {
	b := make([]byte, n)
	for i := range b {
		b[i] = of[m.Intn(len(of))]
	}
	return string(b)
}

func (m maker) word() string {
	return m.bytes(1+m.Intn(12), alphabet[:3+m.Intn(3)])
}

// fount has each byte of the alphabet but for rare ones, and some ligatures.
func (m maker) fount() api.Fount {
	texts := []string{""}
	for i := range len(alphabet) {
		if m.Intn(20) > 0 {
			texts = append(texts, alphabet[i:i+1])
		}
	}
	for range m.Intn(12) {
		if s := m.bytes(2+m.Intn(3), alphabet); !slices.Contains(texts, s) {
			texts = append(texts, s)
		}
	}
	m.Shuffle(len(texts), func(i, j int) { texts[i], texts[j] = texts[j], texts[i] })
	return fountOf(texts...)
}

// marked puts marks between some bytes of a word, at least so many.
func (m maker) marked(word, mark string, least int) string {
	for {
		var b strings.Builder
		n := 0
		for i := range len(word) {
			if i > 0 && m.Intn(3) == 0 {
				b.WriteString(mark)
				n++
			}
			b.WriteByte(word[i])
		}
		if n >= least {
			return b.String()
		}
	}
}

func (m maker) pattern() string {
	var b strings.Builder
	if m.Intn(6) == 0 {
		b.WriteByte('.')
	}
	digit := func() {
		if m.Intn(2) == 0 {
			b.WriteByte(byte('0' + m.Intn(10)))
		}
	}
	for range 1 + m.Intn(3) {
		digit()
		b.WriteString(m.bytes(1, "abc"))
	}
	digit()
	if m.Intn(6) == 0 {
		b.WriteByte('.')
	}
	return b.String()
}

// rules has exceptions and bars of words, as far as they may have them, and of others.
func (m maker) rules(words ...string) api.TextRules {
	r := api.TextRules{Left: 1 + m.Intn(3), Right: 1 + m.Intn(3)}
	for range m.Intn(8) {
		r.Patterns = append(r.Patterns, m.pattern())
	}
	excepted, barred := map[string]bool{}, map[string]bool{}
	for _, w := range append(words, m.word(), m.word()) {
		small := strings.ReplaceAll(strings.ToLower(w), "-", "")
		if small != "" && !excepted[small] && m.Intn(3) == 0 {
			excepted[small] = true
			r.Exceptions = append(r.Exceptions, m.marked(small, "-", 0))
		}
		if len(w) > 1 && !barred[w] && m.Intn(2) == 0 {
			barred[w] = true
			r.Bars = append(r.Bars, m.marked(w, "|", 1))
		}
	}
	return r
}

// copy makes parts of any printed bytes.
func (m maker) copy() []api.CopyPart {
	var l []api.CopyPart
	for range m.Intn(6) {
		p := api.CopyPart{Kind: 1 + m.Intn(3)}
		for range 1 + m.Intn(6) {
			w := m.bytes(1+m.Intn(4), "#^!~a|-")
			if len(p.Words) == 0 && (w == "#" || w == "^") {
				w += "#"
			}
			p.Words = append(p.Words, w)
		}
		l = append(l, p)
	}
	return l
}

// printed is what sorts print, with a "-" between two lists.
func printed(f api.Fount, lists ...[]int) string {
	var texts []string
	for _, l := range lists {
		s := ""
		for _, n := range l {
			s += f.Sorts[n].Text
		}
		texts = append(texts, s)
	}
	return strings.Join(texts, "-")
}

// allSorts returns all lists of sorts for a word that is barred at places, in lexicographic order.
func allSorts(f api.Fount, word string, bars []int, from int) [][]int {
	if from == len(word) {
		return [][]int{{}}
	}
	var all [][]int
	for n, s := range f.Sorts {
		end := from + len(s.Text)
		isBarred := slices.ContainsFunc(bars, func(bar int) bool { return from < bar && bar < end })
		if s.Text == "" || !strings.HasPrefix(word[from:], s.Text) || isBarred {
			continue
		}
		for _, rest := range allSorts(f, word, bars, end) {
			all = append(all, append([]int{n}, rest...))
		}
	}
	return all
}

// barsOf finds the places at which a word is barred, by the definition.
func barsOf(r api.TextRules, word string) []int {
	for _, bar := range r.Bars {
		if strings.ReplaceAll(bar, "|", "") == word {
			return placesOf(bar, '|')
		}
	}
	return nil
}

func placesOf(marked string, mark byte) []int {
	var places []int
	for i := range len(marked) {
		if marked[i] == mark {
			places = append(places, i-len(places))
		}
	}
	return places
}

// P2.3, P2.7: sorts print the word, and no fewer do.
func TestSortsPrintTheWord(t *testing.T) {
	m := newMaker()
	for range 3000 {
		f, word := m.fount(), m.word()
		r := m.rules(word)
		all := allSorts(f, word, barsOf(r, word), 0)
		var fewest []int
		for _, l := range all {
			if fewest == nil || len(l) < len(fewest) {
				fewest = l
			}
			if e := text.CheckSorts(f, r, api.TextSet{Word: word, Sorts: l}); e != api.OK {
				t.Errorf("CheckSorts of %q, %v by %v: error %d", word, l, r.Bars, e)
			}
		}
		want := api.OK
		if fewest == nil {
			want = api.ErrMissing
		}
		got, e := text.FewestSorts(f, r, word)
		wantList(t, fmt.Sprintf("FewestSorts of %q by %v, %v", word, f.Sorts, r.Bars), got, e, fewest, want)
		set, e := text.SortsOf(f, r, word)
		if e != api.OK {
			continue
		}
		if !slices.ContainsFunc(all, func(l []int) bool { return slices.Equal(l, set) }) || printed(f, set) != word {
			t.Errorf("SortsOf %q by %v, %v: %v", word, f.Sorts, r.Bars, set)
		}
		if whole := barless(f, word, set); whole != nil {
			e := text.CheckSorts(f, r, api.TextSet{Word: word, Sorts: whole})
			if isRight := slices.ContainsFunc(all, func(l []int) bool { return slices.Equal(l, whole) }); isRight != (e == api.OK) || !isRight && e != api.ErrBreak {
				t.Errorf("CheckSorts of %q, %v by %v: error %d", word, whole, r.Bars, e)
			}
		}
	}
}

// barless returns other sorts that print a word, whatever is barred, if there are any.
func barless(f api.Fount, word string, set []int) []int {
	for _, l := range allSorts(f, word, nil, 0) {
		if !slices.Equal(l, set) {
			return l
		}
	}
	return nil
}

// P2.4, P2.6, P2.7, P2.8: words, divided or not, print the word and are read back.
func TestWordsAreReadBack(t *testing.T) {
	m := newMaker()
	divided := 0
	for range 3000 {
		f := m.fount()
		words := []string{m.word(), m.word(), m.word()}
		r := m.rules(words...)
		set, e := text.Words(f, r, words)
		if e != api.OK {
			continue
		}
		var want []string
		var lines []api.TypeLine
		var broken []bool
		for i, word := range words {
			checkWord(t, f, r, word, set[i])
			want, lines, broken = append(want, word), append(lines, api.TypeLine{Sorts: set[i].Sorts}), append(broken, false)
			for _, two := range partedOf(t, f, r, word) {
				divided++
				want = append(want, word)
				lines = append(lines, api.TypeLine{Sorts: two[0]}, api.TypeLine{Sorts: two[1]})
				broken = append(broken, true, false)
			}
		}
		if back, e := text.ReadBack(f, lines, broken); e != api.OK || !slices.Equal(back, want) {
			t.Errorf("ReadBack of %v, %v: %q, error %d, want %q", lines, broken, back, e, want)
		}
	}
	if divided < 1000 {
		t.Errorf("only %d words were divided", divided)
	}
}

// partedOf returns a word divided at each of its hyphens, as far as it can be.
func partedOf(t *testing.T, f api.Fount, r api.TextRules, word string) [][2][]int {
	t.Helper()
	var all [][2][]int
	hyphens, _ := text.Hyphens(r, word)
	for _, place := range hyphens {
		two, e := text.Parted(f, r, api.TextPlace{Word: word, Place: place})
		if e != api.OK {
			continue
		}
		all = append(all, two)
		if s := printed(f, two[:]...); s != word[:place]+"--"+word[place:] {
			t.Errorf("Parted %q at %d: %v prints %q", word, place, two, s)
		}
	}
	return all
}

func checkWord(t *testing.T, f api.Fount, r api.TextRules, word string, w api.ParagraphWord) {
	t.Helper()
	sorts, e := text.SortsOf(f, r, word)
	if e != api.OK || !slices.Equal(sorts, w.Sorts) {
		t.Errorf("Words of %q: %v, SortsOf: %v, error %d", word, w.Sorts, sorts, e)
	}
	hyphens, _ := text.Hyphens(r, word)
	var breaks []int
	for n := range sorts {
		if slices.Contains(hyphens, len(printed(f, sorts[:n]))) {
			breaks = append(breaks, n)
		}
	}
	if !slices.Equal(w.Breaks, breaks) {
		t.Errorf("Words of %q by %v: breaks %v, want %v", word, r, w.Breaks, breaks)
	}
}

// P2.4, P2.7: what a copy needs is the sum of what its words need.
func TestNeedsAddUp(t *testing.T) {
	m := newMaker()
	for range 1000 {
		f, r := m.fount(), m.rules()
		var l []api.CopyPart
		want, wantError := make([]int, len(f.Sorts)), api.OK
		for range m.Intn(4) {
			p := api.CopyPart{Kind: 1 + m.Intn(3)}
			for range 1 + m.Intn(4) {
				word := m.word()
				p.Words = append(p.Words, word)
				sorts, e := text.SortsOf(f, r, word)
				if e != api.OK {
					wantError = e
				}
				for _, n := range sorts {
					want[n]++
				}
			}
			l = append(l, p)
		}
		if wantError != api.OK {
			want = nil
		}
		got, e := text.Needs(f, r, l)
		wantList(t, fmt.Sprint("Needs of ", l), got, e, want, wantError)
	}
}

// P2.8: there and back.
func TestThereAndBack(t *testing.T) {
	m := newMaker()
	for range 3000 {
		l := m.copy()
		s, e := text.Print(l)
		if back, mark, e2 := text.Parse(s); e != api.OK || e2 != api.OK || mark != (api.TextMark{}) || !alikeParts(back, l) {
			t.Errorf("Parse of %q: %v, %v, %d, %d", s, back, mark, e, e2)
		}
		r := m.rules()
		s, e = text.PrintRules(r)
		if back, n, e2 := text.ParseRules(s); e != api.OK || e2 != api.OK || n != 0 || !alikeRules(back, r) {
			t.Errorf("ParseRules of %q: %v, %d, %d, %d", s, back, n, e, e2)
		}
	}
}

// P2.2, P2.8: whatever is read is a copy, and its own text is read as the same one.
func TestParseOfAnyText(t *testing.T) {
	m := newMaker()
	for range 20000 {
		s := m.bytes(m.Intn(12), "#^a \n\n ")
		l, mark, e := text.Parse(s)
		if e != api.OK {
			if len(l) != 0 || e != api.ErrForm && e != api.ErrMissing || !strings.Contains("#^", byteAt(s, mark)) {
				t.Errorf("Parse of %q: %v, %v, %d", s, l, mark, e)
			}
			continue
		}
		again, e := text.Print(l)
		if back, _, e2 := text.Parse(again); e != api.OK || e2 != api.OK || !alikeParts(back, l) {
			t.Errorf("Parse of %q: %v; its text %q: %v, %d, %d", s, l, again, back, e, e2)
		}
	}
}

// byteAt returns the byte at a mark of a text.
func byteAt(s string, m api.TextMark) string {
	line := strings.Split(s, "\n")[m.Line-1]
	return line[m.Column-1 : m.Column]
}

// levelsOf finds levels by the definition: a pattern is tried at each place.
func levelsOf(patterns []string, word string) []int {
	levels := make([]int, len(word)+1)
	small := strings.ToLower(word)
	for _, p := range patterns {
		inner := strings.Trim(p, ".")
		letters := strings.Trim(strings.Map(func(r rune) rune {
			if r >= '0' && r <= '9' {
				return -1
			}
			return r
		}, inner), ".")
		for at := 0; at+len(letters) <= len(small); at++ {
			if small[at:at+len(letters)] != letters || p[0] == '.' && at > 0 || p[len(p)-1] == '.' && at+len(letters) < len(small) {
				continue
			}
			place := at
			for i := range len(inner) {
				if inner[i] >= '0' && inner[i] <= '9' {
					levels[place] = max(levels[place], int(inner[i]-'0'))
				} else {
					place++
				}
			}
		}
	}
	return levels
}

// P2.5, P2.9: levels and hyphens.
func TestHyphensByTheDefinition(t *testing.T) {
	m := newMaker()
	for range 5000 {
		word := m.word()
		r := m.rules(word)
		levels, e := text.LevelsOf(r, word)
		wantList(t, fmt.Sprintf("LevelsOf %q by %v", word, r.Patterns), levels, e, levelsOf(r.Patterns, word), api.OK)
		checkDeciding(t, r, word, levels)
		var places []int
		isException := false
		for _, x := range r.Exceptions {
			if strings.ReplaceAll(x, "-", "") == strings.ToLower(word) {
				places, isException = placesOf(x, '-'), true
			}
		}
		for place, level := range levels {
			if !isException && level%2 == 1 && !strings.Contains(word, "-") {
				places = append(places, place)
			}
		}
		places = slices.DeleteFunc(places, func(n int) bool { return n < r.Left || len(word)-n < r.Right })
		got, e := text.Hyphens(r, word)
		wantList(t, fmt.Sprintf("Hyphens of %q by %v", word, r), got, e, places, api.OK)
		s, e := text.Hyphened(r, word)
		if !slices.Contains(strings.Split(word, ""), "-") && (e != api.OK || strings.ReplaceAll(s, "-", "") != word || !slices.Equal(placesOf(s, '-'), places)) {
			t.Errorf("Hyphened %q: %q, error %d", word, s, e)
		}
	}
}

// checkDeciding tells the first pattern without which, and all behind it, no level is as high.
func checkDeciding(t *testing.T, r api.TextRules, word string, levels []int) {
	t.Helper()
	for place, level := range levels {
		want, wantError := 0, api.ErrNone
		for n := range r.Patterns {
			if level > 0 && levelsOf(r.Patterns[:n+1], word)[place] == level {
				want, wantError = n, api.OK
				break
			}
		}
		n, e := text.Deciding(r, word, place)
		wantNumber(t, fmt.Sprintf("Deciding %q by %v at %d", word, r.Patterns, place), n, e, want, wantError)
	}
}

// P2.9: patterns without odd digits make no hyphen, and an exception changes its own word alone.
func TestWhatMakesNoHyphen(t *testing.T) {
	m := newMaker()
	for range 2000 {
		r, word := m.rules(), m.word()
		before, _ := text.Hyphens(r, word)
		more := r
		more.Patterns = append(slices.Clone(r.Patterns), strings.NewReplacer("1", "2", "3", "4", "5", "6", "7", "8", "9", "0").Replace(m.pattern()))
		after, e := text.Hyphens(more, word)
		if e != api.OK || slices.ContainsFunc(after, func(n int) bool { return !slices.Contains(before, n) }) {
			t.Errorf("%q: hyphens %v, with one more even pattern %v", word, before, after)
		}
		more = r
		more.Exceptions = append(slices.Clone(r.Exceptions), m.marked(m.bytes(13, "abc"), "-", 0))
		after, e = text.Hyphens(more, word)
		wantList(t, fmt.Sprintf("Hyphens of %q with one more exception", word), after, e, before, api.OK)
	}
}

// R3, R4: no call writes into its arguments, and results share no memory with arguments or with
// the results of other calls.
func TestNothingIsShared(t *testing.T) {
	f, r, a := office(), callRules(), rightArgs()
	for _, c := range calls() {
		first, e := c.do(f, r, a)
		was := fmt.Sprint(first, e)
		for _, result := range first {
			overwrite(result)
		}
		second, e := c.do(f, r, a)
		if s := fmt.Sprint(second, e); s != was {
			t.Errorf("%s once more: %s, first %s", c.name, s, was)
		}
		if !reflect.DeepEqual(f, office()) || !reflect.DeepEqual(r, callRules()) || !reflect.DeepEqual(a, rightArgs()) {
			t.Fatalf("%s has written into its arguments", c.name)
		}
	}
	words, e := text.Words(office(), callRules(), []string{"shelfful", "shelfful"})
	overwrite(words[0].Sorts)
	overwrite(words[0].Breaks)
	if one, e2 := text.Words(office(), callRules(), []string{"shelfful"}); e != api.OK || e2 != api.OK || !reflect.DeepEqual(words[1], one[0]) {
		t.Errorf("Words share memory: %v", words)
	}
	parted, e := text.Parted(office(), callRules(), api.TextPlace{Word: "shelfful", Place: 5})
	overwrite(parted[0])
	if e != api.OK || !slices.Equal(parted[1], []int{1, 4, 3}) {
		t.Errorf("the parts of Parted share memory: %v", parted)
	}
}

// overwrite writes into a list of numbers, and behind it as far as its memory goes.
func overwrite(result any) {
	if l, ok := result.([]int); ok {
		l = l[:cap(l)]
		for i := range l {
			l[i] = -7
		}
	}
}
