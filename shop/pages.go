package shop

import (
	"slices"

	"tympan/api"
	"tympan/fount"
	"tympan/proof"
	"tympan/text"
)

// total returns how many of each sort there are in the shop.
func (s *shop) total() []int {
	counts := slices.Clone(s.Case)
	for sort, dead := range s.Dead {
		counts[sort] += dead
	}
	for _, p := range s.Pages {
		for sort, standing := range s.needOf(p.Lines) {
			counts[sort] += standing
		}
	}
	return counts
}

// Total: see the chapter.
func Total(s api.ShopSetup, log []string) ([]int, int, api.Errno) {
	behind, _, e := shopBehind(s, log)
	if e != api.OK {
		return nil, 0, e
	}
	counts := behind.total()
	metal, e := fount.MetalOf(s.Fount, counts)
	if e != api.OK {
		return nil, 0, e
	}
	return counts, behind.ShopState.Metal + metal, api.OK
}

// WhereIs: see the chapter.
func WhereIs(s api.ShopSetup, log []string, sort string) ([4]int, api.Errno) {
	behind, _, e := shopBehind(s, log)
	if e != api.OK {
		return [4]int{}, e
	}
	return behind.whereIs(sort)
}

func (s *shop) whereIs(name string) ([4]int, api.Errno) {
	sort, e := fount.Find(s.Fount, name)
	if e != api.OK {
		return [4]int{}, e
	}
	loose, locked := 0, 0
	for _, p := range s.Pages {
		standing := s.needOf(p.Lines)[sort]
		if isLocked(p) {
			locked += standing
		} else {
			loose += standing
		}
	}
	return [4]int{s.Case[sort], loose, locked, s.Dead[sort]}, api.OK
}

// CopyOf: see the chapter.
func CopyOf(s api.ShopSetup, log []string, page string) ([]string, api.Errno) {
	behind, _, e := shopBehind(s, log)
	if e != api.OK {
		return nil, e
	}
	return behind.copyOf(page)
}

func (s *shop) copyOf(page string) ([]string, api.Errno) {
	p, e := s.pageNamed(page)
	if e != api.OK {
		return nil, e
	}
	return p.Words, api.OK
}

// ReadPage: see the chapter.
func ReadPage(s api.ShopSetup, log []string, page string) ([]string, api.Errno) {
	behind, _, e := shopBehind(s, log)
	if e != api.OK {
		return nil, e
	}
	return behind.readPage(page)
}

func (s *shop) readPage(page string) ([]string, api.Errno) {
	p, e := s.pageNamed(page)
	if e != api.OK {
		return nil, e
	}
	if !p.Standing {
		return nil, api.ErrState
	}
	return text.ReadBack(s.Fount, p.Lines, p.Broken)
}

// Moves: see the chapter.
func Moves(s api.ShopSetup, log []string, c [2]string) ([2][]int, api.Errno) {
	behind, _, e := shopBehind(s, log)
	if e != api.OK {
		return [2][]int{}, e
	}
	name, mark := c[0], c[1]
	if !isName(name) {
		return [2][]int{}, api.ErrName
	}
	before := behind.sortsOn(name)
	if e := behind.enter("correct " + name + " " + mark); e != api.OK {
		return [2][]int{}, e
	}
	return proof.TypeMoves(before, behind.sortsOn(name))
}

// sortsOn returns the sorts of the lines of a page; none if there is no such page.
func (s *shop) sortsOn(page string) []int {
	p, e := s.pageNamed(page)
	if e != api.OK {
		return nil
	}
	return sortsOf(p.Lines)
}
