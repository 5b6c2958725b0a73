package shop

import (
	"slices"
	"strings"

	"tympan/api"
)

// condition tells whether it holds for a page.
type condition func(p api.ShopPage) bool

// conditionMakers returns, by the first word of a condition, what makes it of the second one.
func conditionMakers() map[string]func(second string) (condition, api.Errno) {
	return map[string]func(second string) (condition, api.Errno){
		"state":   inState,
		"forme":   inForme,
		"word":    withWord,
		"printed": printedAtLeast,
	}
}

func inState(state string) (condition, api.Errno) {
	if !slices.Contains([]string{stateStanding, stateLocked, stateDistributed}, state) {
		return nil, api.ErrSyntax
	}
	return func(p api.ShopPage) bool { return stateOf(p) == state }, api.OK
}

func inForme(forme string) (condition, api.Errno) {
	if !isName(forme) {
		return nil, api.ErrName
	}
	return func(p api.ShopPage) bool { return p.Forme == forme }, api.OK
}

func withWord(word string) (condition, api.Errno) {
	return func(p api.ShopPage) bool { return slices.Contains(p.Words, word) }, api.OK
}

func printedAtLeast(number string) (condition, api.Errno) {
	sheets, isNumber := numberOf(number)
	if !isNumber || sheets < 0 {
		return nil, api.ErrSyntax
	}
	return func(p api.ShopPage) bool { return p.Printed >= sheets }, api.OK
}

// The states of pages, as questions name them.
const (
	stateStanding    = "standing"
	stateLocked      = "locked"
	stateDistributed = "distributed"
)

func stateOf(p api.ShopPage) string {
	switch {
	case !p.Standing:
		return stateDistributed
	case isLocked(p):
		return stateLocked
	}
	return stateStanding
}

// conditionsOf returns the conditions of a question, or its error.
func conditionsOf(q string) ([]condition, api.Errno) {
	if q == "" {
		return nil, api.OK
	}
	var conditions []condition
	makers, had := conditionMakers(), map[string]bool{}
	for words := range slices.Chunk(strings.Split(q, " "), 2) {
		first := words[0]
		maker, isWord := makers[first]
		if !isWord || len(words) < 2 {
			return nil, api.ErrSyntax
		}
		if had[first] {
			return nil, api.ErrExists
		}
		had[first] = true
		c, e := maker(words[1])
		if e != api.OK {
			return nil, e
		}
		conditions = append(conditions, c)
	}
	return conditions, api.OK
}

// Query: see the chapter.
func Query(s api.ShopSetup, log []string, q string) ([]string, api.Errno) {
	behind, _, e := shopBehind(s, log)
	if e != api.OK {
		return nil, e
	}
	return behind.query(q)
}

func (s *shop) query(q string) ([]string, api.Errno) {
	conditions, e := conditionsOf(q)
	if e != api.OK {
		return nil, e
	}
	var names []string
	for _, p := range s.Pages {
		fails := func(c condition) bool { return !c(p) }
		if !slices.ContainsFunc(conditions, fails) {
			names = append(names, p.Name)
		}
	}
	return names, api.OK
}

// Counts: see the chapter.
func Counts(s api.ShopSetup, log []string) (api.ShopCounts, api.Errno) {
	behind, _, e := shopBehind(s, log)
	if e != api.OK {
		return api.ShopCounts{}, e
	}
	c := api.ShopCounts{Pages: len(behind.Pages), Formes: len(behind.Formes)}
	for _, p := range behind.Pages {
		if p.Standing {
			c.Standing++
		}
		if isLocked(p) {
			c.Locked++
		}
		c.Lines += len(p.Lines)
		c.Sorts += len(sortsOf(p.Lines))
		c.Printed += p.Printed
	}
	return c, api.OK
}

// Invoice: see the chapter.
func Invoice(s api.ShopSetup, log []string, p api.ShopPrices) ([]int, int, api.Errno) {
	behind, _, e := shopBehind(s, log)
	if e != api.OK {
		return nil, 0, e
	}
	if !isFrom(0, api.MaxShopPrice, p.Sort) || !isFrom(0, api.MaxShopPrice, p.Sheet) {
		return nil, 0, api.ErrRange
	}
	var cents []int
	sum := 0
	for _, page := range behind.Pages {
		n := p.Sort*page.Set + p.Sheet*page.Printed
		cents = append(cents, n)
		sum += n
	}
	return cents, sum, api.OK
}
