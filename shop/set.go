package shop

import (
	"slices"

	"tympan/api"
	"tympan/fount"
	"tympan/page"
	"tympan/paragraph"
	"tympan/text"
)

// typeSet is words that are set: the lines, which of them end within a word, and how many of each sort
// they need.
type typeSet struct {
	lines  []api.TypeLine
	broken []bool
	need   []int
}

// typeFor sets words with a case, or returns the error of setting.
func (s *shop) typeFor(counts []int, words []string) (typeSet, api.Errno) {
	set, e := text.Words(s.Fount, s.Text, words)
	if e != api.OK {
		return typeSet{}, e
	}
	breaks, e := paragraph.Greedy(s.Fount, s.Paragraph, set)
	if e != api.OK {
		return typeSet{}, e
	}
	lines, _, e := paragraph.SetAt(s.Fount, counts, s.Paragraph, set, breaks)
	if e != api.OK {
		return typeSet{}, e
	}
	broken, e := paragraph.Broken(s.Fount, set, breaks)
	if e != api.OK {
		return typeSet{}, e
	}
	return typeSet{lines, broken, s.needOf(lines)}, api.OK
}

// set sets words for a page with a case, and leaves what then is left as the case of the shop.
func (s *shop) set(p *api.ShopPage, counts []int, words []string) api.Errno {
	t, e := s.typeFor(counts, words)
	if e != api.OK {
		return e
	}
	left, _, e := fount.Taken(s.Fount, counts, t.need)
	if e != api.OK {
		return e
	}
	s.Case = left
	p.Words, p.Standing, p.Lines, p.Broken = words, true, t.lines, t.broken
	p.Set += len(sortsOf(t.lines))
	return api.OK
}

// sortsOf returns the sorts of lines, one line behind the other.
func sortsOf(lines []api.TypeLine) []int {
	var sorts []int
	for _, l := range lines {
		sorts = append(sorts, l.Sorts...)
	}
	return sorts
}

// needOf counts the sorts of lines. A page of the shop may have more lines than page.NeedOf takes.
func (s *shop) needOf(lines []api.TypeLine) []int {
	need := make([]int, len(s.Fount.Sorts))
	for _, sort := range sortsOf(lines) {
		need[sort]++
	}
	return need
}

// caseWith returns the case to which the sorts of lines have gone back.
func (s *shop) caseWith(lines []api.TypeLine) ([]int, api.Errno) {
	return fount.Joined(s.Fount, s.Case, s.needOf(lines))
}

// CanSet: see the chapter.
func CanSet(s api.ShopSetup, log []string, words []string) (int, api.Errno) {
	behind, _, e := shopBehind(s, log)
	if e != api.OK {
		return 0, e
	}
	if _, e := text.CheckParts(asCopy(words)); e != api.OK {
		return 0, e
	}
	t, e := behind.typeFor(behind.Case, words)
	if e != api.OK {
		return 0, e
	}
	return len(t.lines), api.OK
}

// Together: see the chapter.
func Together(s api.ShopSetup, log []string) ([]string, api.Errno) {
	behind, _, e := shopBehind(s, log)
	if e != api.OK {
		return nil, e
	}
	names, stand := behind.settable()
	set, e := page.MostStanding(s.Fount, stand)
	if e != api.OK {
		return nil, e
	}
	var together []string
	for _, number := range set {
		together = append(together, names[number])
	}
	return together, api.OK
}

// settable returns the names of the pages that do not stand, but that the case allows to set, each one
// by itself; and the case with what each of them needs.
func (s *shop) settable() ([]string, api.PageStand) {
	var names []string
	stand := api.PageStand{Case: slices.Clone(s.Case)}
	for _, p := range s.Pages {
		if p.Standing {
			continue
		}
		if t, e := s.typeFor(s.Case, p.Words); e == api.OK {
			names = append(names, p.Name)
			stand.Needs = append(stand.Needs, t.need)
		}
	}
	return names, stand
}
