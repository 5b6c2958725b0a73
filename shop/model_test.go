package shop_test

import (
	"regexp"
	"slices"
	"strconv"
	"strings"
	"testing"

	"tympan/api"
	"tympan/fount"
	"tympan/paragraph"
	"tympan/proof"
	"tympan/shop"
	"tympan/text"
)

// piece is a single piece of type, and where it is: inCase, isDead, or a page.
type piece struct {
	sort  int
	place string
}

const (
	inCase = "in the case"
	isDead = "dead"
)

// model is a shop that knows of each piece of type where it is.
type model struct {
	api.ShopSetup
	pieces []piece
	pages  []api.ShopPage
	formes []string
}

func (m *model) clone() *model {
	c := *m
	c.pieces, c.pages, c.formes = slices.Clone(m.pieces), slices.Clone(m.pages), slices.Clone(m.formes)
	return &c
}

// counts counts the sorts at a place; at "" those at all of them.
func (m *model) counts(place string) []int {
	l := make([]int, len(m.Fount.Sorts))
	for _, p := range m.pieces {
		if place == "" || p.place == place {
			l[p.sort]++
		}
	}
	return l
}

// metal is what is not cast.
func (m *model) metal() int {
	left := m.Metal
	for _, p := range m.pieces {
		left -= m.Fount.Sorts[p.sort].Width * m.Fount.Body
	}
	return left
}

// move moves a piece of a sort from a place to another one, if there is one.
func (m *model) move(sort int, from, to string) bool {
	at := slices.Index(m.pieces, piece{sort, from})
	if at < 0 {
		return false
	}
	m.pieces[at].place = to
	return true
}

// moveAll moves as many pieces as a case counts, if there are so many.
func (m *model) moveAll(counts []int, from, to string) bool {
	for sort, count := range counts {
		for range count {
			if !m.move(sort, from, to) {
				return false
			}
		}
	}
	return true
}

// page is the page with a name, or nil.
func (m *model) page(name string) *api.ShopPage {
	for i := range m.pages {
		if m.pages[i].Name == name {
			return &m.pages[i]
		}
	}
	return nil
}

// takeDown moves all pieces of a page into the case.
func (m *model) takeDown(p *api.ShopPage) {
	m.moveAll(m.counts(p.Name), p.Name, inCase)
	p.Standing, p.Lines, p.Broken = false, nil, nil
}

// set sets a page that does not stand.
func (m *model) set(p *api.ShopPage, words []string) api.Errno {
	set, e := text.Words(m.Fount, m.Text, words)
	if e != api.OK {
		return e
	}
	breaks, e := paragraph.Greedy(m.Fount, m.Paragraph, set)
	if e != api.OK {
		return e
	}
	p.Words = words
	if p.Lines, _, e = paragraph.SetAt(m.Fount, m.counts(inCase), m.Paragraph, set, breaks); e != api.OK {
		return e
	}
	p.Standing = true
	p.Broken, _ = paragraph.Broken(m.Fount, set, breaks)
	for _, l := range p.Lines {
		for _, sort := range l.Sorts {
			m.move(sort, inCase, p.Name)
			p.Set++
		}
	}
	return api.OK
}

var (
	oneName   = regexp.MustCompile(`^[A-Za-z][A-Za-z0-9-]{0,11}$`)
	oneNumber = regexp.MustCompile(`^(0|-?[1-9][0-9]{0,6})$`)
)

// free is the page with a name, which must stand and not be locked.
func (m *model) free(name string) (*api.ShopPage, api.Errno) {
	p := m.page(name)
	if p == nil {
		return nil, api.ErrMissing
	}
	if !p.Standing {
		return nil, api.ErrState
	}
	if p.Forme != "" {
		return nil, api.ErrBusy
	}
	return p, api.OK
}

// behind is the model behind an entry, or the error with which this is refused.
func (m *model) behind(line string) (*model, api.Errno) {
	word, rest, found := strings.Cut(line, " ")
	if len(line) > 300 {
		return nil, api.ErrLarge
	}
	if strings.Contains(line, "\n") || !found {
		return nil, api.ErrSyntax
	}
	next := m.clone()
	do := map[string]func(rest string) api.Errno{
		"cast": next.cast, "worn": next.wear, "melt": next.melt,
		"set": next.setPage, "correct": next.correct, "distribute": next.distribute, "again": next.again,
		"lock": next.lock, "print": next.print, "unlock": next.unlock,
	}[word]
	if do == nil {
		return nil, api.ErrKind
	}
	if e := do(rest); e != api.OK {
		return nil, e
	}
	return next, api.OK
}

func (m *model) parseCase(rest string) ([]int, api.Errno) {
	l, e := fount.ParseCase(m.Fount, rest)
	if e == api.OK && rest == "" {
		e = api.ErrZero
	}
	return l, e
}

func (m *model) cast(rest string) api.Errno {
	l, e := m.parseCase(rest)
	if e != api.OK {
		return e
	}
	for sort, count := range l {
		m.pieces = append(m.pieces, slices.Repeat([]piece{{sort, inCase}}, count)...)
	}
	if m.metal() < 0 {
		return api.ErrStock
	}
	if slices.Max(m.counts("")) > 1000000 {
		return api.ErrLarge
	}
	return api.OK
}

func (m *model) wear(rest string) api.Errno {
	l, e := m.parseCase(rest)
	if e == api.OK && !m.moveAll(l, inCase, isDead) {
		e = api.ErrStock
	}
	return e
}

func (m *model) melt(rest string) api.Errno {
	l, e := m.parseCase(rest)
	if e == api.OK && !m.moveAll(l, isDead, "molten") {
		e = api.ErrStock
	}
	m.pieces = slices.DeleteFunc(m.pieces, func(p piece) bool { return p.place == "molten" })
	return e
}

func (m *model) setPage(rest string) api.Errno {
	name, words, found := strings.Cut(rest, " ")
	list := strings.Split(words, " ")
	if !found || slices.Contains(list, "") {
		return api.ErrSyntax
	}
	if !oneName.MatchString(name) {
		return api.ErrName
	}
	if _, e := text.CheckParts([]api.CopyPart{{Kind: 1, Words: list}}); e != api.OK {
		return e
	}
	if m.page(name) != nil {
		return api.ErrExists
	}
	m.pages = append(m.pages, api.ShopPage{Name: name})
	return m.set(m.page(name), list)
}

func (m *model) correct(rest string) api.Errno {
	name, mark, found := strings.Cut(rest, " ")
	if !found {
		return api.ErrSyntax
	}
	if !oneName.MatchString(name) {
		return api.ErrName
	}
	x, e := proof.ParseMark(mark)
	if e != api.OK {
		return e
	}
	p, e := m.free(name)
	if e != api.OK {
		return e
	}
	l, e := proof.Applied([]api.CopyPart{{Kind: 1, Words: p.Words}}, x)
	if e != api.OK {
		return e
	}
	if len(l) != 1 || l[0].Kind != 1 {
		return api.ErrKind
	}
	m.takeDown(p)
	return m.set(p, l[0].Words)
}

func (m *model) distribute(name string) api.Errno {
	if !oneName.MatchString(name) {
		return api.ErrName
	}
	p, e := m.free(name)
	if e == api.OK {
		m.takeDown(p)
	}
	return e
}

func (m *model) again(name string) api.Errno {
	p := m.page(name)
	switch {
	case !oneName.MatchString(name):
		return api.ErrName
	case p == nil:
		return api.ErrMissing
	case p.Standing:
		return api.ErrState
	}
	return m.set(p, p.Words)
}

func (m *model) lock(rest string) api.Errno {
	names := strings.Fields(strings.ReplaceAll(rest, " ", " ."))
	if len(names) < 2 {
		return api.ErrSyntax
	}
	for i := range names {
		names[i] = strings.TrimPrefix(names[i], ".")
		if !oneName.MatchString(names[i]) {
			return api.ErrName
		}
	}
	if slices.Contains(m.formes, names[0]) {
		return api.ErrExists
	}
	m.formes = append(m.formes, names[0])
	for _, name := range names[1:] {
		p, e := m.free(name)
		if e != api.OK {
			return e
		}
		p.Forme = names[0]
	}
	return api.OK
}

func (m *model) print(rest string) api.Errno {
	words := strings.Split(rest, " ")
	if len(words) != 2 || !oneNumber.MatchString(words[1]) {
		return api.ErrSyntax
	}
	if !oneName.MatchString(words[0]) {
		return api.ErrName
	}
	n, _ := strconv.Atoi(words[1])
	if n < 1 || n > 100000 {
		return api.ErrRange
	}
	if !slices.Contains(m.formes, words[0]) {
		return api.ErrMissing
	}
	for i := range m.pages {
		if m.pages[i].Forme == words[0] {
			m.pages[i].Printed += n
		}
	}
	return api.OK
}

func (m *model) unlock(name string) api.Errno {
	if !oneName.MatchString(name) {
		return api.ErrName
	}
	at := slices.Index(m.formes, name)
	if at < 0 {
		return api.ErrMissing
	}
	m.formes = slices.Delete(m.formes, at, at+1)
	for i := range m.pages {
		if m.pages[i].Forme == name {
			m.pages[i].Forme = ""
		}
	}
	return api.OK
}

// state is the state of the model.
func (m *model) state() api.ShopState {
	return api.ShopState{Case: m.counts(inCase), Dead: m.counts(isDead), Metal: m.metal(), Pages: m.pages, Formes: m.formes}
}

// copies is the words of all pages.
func (m *model) copies() map[string][]string {
	words := map[string][]string{}
	for _, p := range m.pages {
		words[p.Name] = p.Words
	}
	return words
}

// seen counts, for each word of an entry, how often each error came of it.
type seen map[string]map[api.Errno]int

func (s seen) add(entry string, e api.Errno) {
	word, _, _ := strings.Cut(entry, " ")
	if s[word] == nil {
		s[word] = map[api.Errno]int{}
	}
	s[word][e]++
}

// madeLog makes a log, and the model behind it; each entry is first tried with both.
func madeLog(t *testing.T, m maker, s api.ShopSetup, tries int, had seen) ([]string, *model) {
	t.Helper()
	var log []string
	at := &model{ShopSetup: s}
	for try := range tries {
		entry := m.entry(s.Fount, at.copies())
		if try == 0 {
			entry = "cast " + fullCase
		}
		next, wanted := at.behind(entry)
		longer, e := shop.Accept(s, log, entry)
		wantError(t, entry+" behind "+strings.Join(log, "; "), e, wanted)
		had.add(entry, e)
		if e == api.OK && wanted == api.OK {
			log, at = longer, next
		}
	}
	return log, at
}

// P10.2, P10.9, and the table of entries: made logs, against pieces of type that are moved one by one.
func TestMadeLogs(t *testing.T) {
	had := seen{}
	for seed := range int64(150) {
		m := newMaker(seed)
		s := rich()
		if m.Intn(3) == 0 {
			s.Metal = m.from(0, 2000000)
		}
		log, at := madeLog(t, m, s, 60, had)
		want(t, "the state", stateOf(t, s, log), api.OK, at.state(), api.OK)
	}
	wanted := map[string][]api.Errno{
		"cast":       {api.OK, api.ErrStock, api.ErrZero},
		"set":        {api.OK, api.ErrExists, api.ErrMissing, api.ErrNone, api.ErrStock, api.ErrForm},
		"correct":    {api.OK, api.ErrMissing, api.ErrState, api.ErrBusy, api.ErrClash, api.ErrKind, api.ErrShape, api.ErrNone},
		"lock":       {api.OK, api.ErrExists, api.ErrMissing, api.ErrState, api.ErrBusy},
		"print":      {api.OK, api.ErrRange, api.ErrMissing},
		"unlock":     {api.OK, api.ErrName, api.ErrMissing},
		"distribute": {api.OK, api.ErrMissing, api.ErrState, api.ErrBusy},
		"again":      {api.OK, api.ErrMissing, api.ErrState, api.ErrSyntax},
		"worn":       {api.OK, api.ErrStock},
		"melt":       {api.OK, api.ErrStock},
		"mend":       {api.ErrKind},
	}
	for word, errors := range wanted {
		for _, e := range errors {
			if had[word][e] == 0 {
				t.Errorf("no entry %q with the error %d was made: %v", word, e, had[word])
			}
		}
	}
}
