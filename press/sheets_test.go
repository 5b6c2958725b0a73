package press_test

import (
	"fmt"
	"math/big"
	"testing"

	"tympan/api"
	"tympan/press"
)

func frac(num, den int) api.Frac {
	return api.Frac{Num: num, Den: den}
}

// wrongFrac is a fraction that is no chance, with its error.
type wrongFrac struct {
	f api.Frac
	e api.Errno
}

func wrongChances() []wrongFrac {
	return []wrongFrac{
		{frac(0, 0), api.ErrForm}, {frac(1, 0), api.ErrForm}, {frac(0, 2), api.ErrForm}, {frac(2, 2), api.ErrForm}, {frac(2, 4), api.ErrForm}, {frac(3, 9), api.ErrForm},
		{frac(1, -2), api.ErrForm}, {frac(-1, -2), api.ErrForm}, {frac(0, -1), api.ErrForm}, {frac(-2, 4), api.ErrForm}, {frac(12, 10), api.ErrForm}, {frac(small, 2), api.ErrForm},
		{frac(1, small), api.ErrForm}, {frac(small, small), api.ErrForm}, {frac(great, great), api.ErrForm}, {frac(2, 1<<40), api.ErrForm}, {frac(small, -1), api.ErrForm},
		{frac(-1, 2), api.ErrRange}, {frac(-1, 1), api.ErrRange}, {frac(2, 1), api.ErrRange}, {frac(3, 2), api.ErrRange}, {frac(11, 10), api.ErrRange}, {frac(small, 1), api.ErrRange},
		{frac(small, 3), api.ErrRange}, {frac(great, 2), api.ErrRange}, {frac(1, great), api.ErrRange}, {frac(1, 1<<62), api.ErrRange},
	}
}

func wrongSpoils() []wrongFrac {
	return append(wrongChances(), wrongFrac{frac(1, 11), api.ErrRange}, wrongFrac{frac(10, 11), api.ErrRange})
}

func wrongRisks() []wrongFrac {
	return append(wrongChances(), wrongFrac{frac(1, 1000000001), api.ErrRange}, wrongFrac{frac(1000000000, 1000000001), api.ErrRange})
}

// spoils is all chances that a sheet may be spoiled.
func spoils() []api.Frac {
	var all []api.Frac
	for den := 1; den <= 10; den++ {
		for num := 0; num <= den; num++ {
			if r := big.NewRat(int64(num), int64(den)); r.Denom().Int64() == int64(den) {
				all = append(all, frac(num, den))
			}
		}
	}
	return all
}

func ratOf(f api.Frac) *big.Rat {
	return big.NewRat(int64(f.Num), int64(f.Den))
}

func fracOf(r *big.Rat) api.Frac {
	return frac(int(r.Num().Int64()), int(r.Denom().Int64()))
}

// chanceOf is the chance that at least so many sheets are good, by sums over their numbers.
func chanceOf(sheets, good int, spoil api.Frac) *big.Rat {
	bad := ratOf(spoil)
	fine := new(big.Rat).Sub(big.NewRat(1, 1), bad)
	sum := new(big.Rat)
	for k := good; k <= sheets; k++ {
		term := new(big.Rat).SetInt(new(big.Int).Binomial(int64(sheets), int64(k)))
		for range k {
			term.Mul(term, fine)
		}
		for range sheets - k {
			term.Mul(term, bad)
		}
		sum.Add(sum, term)
	}
	return sum
}

// P9.2: chances of the chapter's examples, and at the limits.
func TestChances(t *testing.T) {
	for _, c := range []struct {
		s      api.SheetRun
		wanted [2]int
	}{
		{api.SheetRun{Sheets: 3, Good: 2, Spoil: frac(1, 10)}, [2]int{243, 250}},
		{api.SheetRun{Sheets: 0, Good: 0, Spoil: frac(1, 10)}, [2]int{1, 1}},
		{api.SheetRun{Sheets: 0, Good: 0, Spoil: frac(1, 1)}, [2]int{1, 1}},
		{api.SheetRun{Sheets: 5, Good: 0, Spoil: frac(1, 1)}, [2]int{1, 1}},
		{api.SheetRun{Sheets: 5, Good: 1, Spoil: frac(1, 1)}, [2]int{0, 1}},
		{api.SheetRun{Sheets: 17, Good: 17, Spoil: frac(1, 1)}, [2]int{0, 1}},
		{api.SheetRun{Sheets: 17, Good: 17, Spoil: frac(0, 1)}, [2]int{1, 1}},
		{api.SheetRun{Sheets: 17, Good: 0, Spoil: frac(9, 10)}, [2]int{1, 1}},
		{api.SheetRun{Sheets: 17, Good: 17, Spoil: frac(9, 10)}, [2]int{1, 100000000000000000}},
		{api.SheetRun{Sheets: 17, Good: 1, Spoil: frac(1, 10)}, [2]int{99999999999999999, 100000000000000000}},
		{api.SheetRun{Sheets: 2, Good: 1, Spoil: frac(1, 2)}, [2]int{3, 4}},
		{api.SheetRun{Sheets: 1, Good: 1, Spoil: frac(2, 5)}, [2]int{3, 5}},
	} {
		p, e := press.ChanceOf(c.s)
		want(t, fmt.Sprint("ChanceOf ", c.s), p, e, c.wanted, api.OK)
	}
	for _, s := range [][2]int{{-1, 0}, {18, 0}, {18, 18}, {3, -1}, {3, 4}, {0, 1}, {-1, -1}, {great, great}, {small, small}} {
		for _, spoil := range []api.Frac{frac(1, 10), frac(2, 4), frac(1, 11)} {
			p, e := press.ChanceOf(api.SheetRun{Sheets: s[0], Good: s[1], Spoil: spoil})
			want(t, fmt.Sprint("ChanceOf ", s), p, e, [2]int{}, api.ErrRange)
		}
	}
	for _, w := range wrongSpoils() {
		p, e := press.ChanceOf(api.SheetRun{Sheets: 3, Good: 2, Spoil: w.f})
		want(t, fmt.Sprint("ChanceOf, spoil ", w.f), p, e, [2]int{}, w.e)
	}
}

// P9.2: all chances, by the definition.
func TestAllChances(t *testing.T) {
	for _, spoil := range spoils() {
		for sheets := range 18 {
			for good := range sheets + 1 {
				f := fracOf(chanceOf(sheets, good, spoil))
				p, e := press.ChanceOf(api.SheetRun{Sheets: sheets, Good: good, Spoil: spoil})
				want(t, fmt.Sprint("ChanceOf ", sheets, good, spoil), p, e, [2]int{f.Num, f.Den}, api.OK)
			}
		}
	}
}

// P9.2: the chance by all that may become of a few sheets.
func TestChancesOfSingleSheets(t *testing.T) {
	for _, spoil := range spoils() {
		for sheets := range 7 {
			for good := range sheets + 1 {
				sum := new(big.Rat)
				for fate := range 1 << sheets {
					chance, fine := big.NewRat(1, 1), 0
					for sheet := range sheets {
						one := ratOf(spoil)
						if fate>>sheet&1 == 1 {
							one.Sub(big.NewRat(1, 1), one)
							fine++
						}
						chance.Mul(chance, one)
					}
					if fine >= good {
						sum.Add(sum, chance)
					}
				}
				f := fracOf(sum)
				p, e := press.ChanceOf(api.SheetRun{Sheets: sheets, Good: good, Spoil: spoil})
				want(t, fmt.Sprint("ChanceOf ", sheets, good, spoil), p, e, [2]int{f.Num, f.Den}, api.OK)
			}
		}
	}
}

// P9.2: the least sheets of the chapter's examples, and at the limits.
func TestLeastSheets(t *testing.T) {
	for _, c := range []struct {
		good        int
		spoil, risk api.Frac
		wanted      int
		e           api.Errno
	}{
		{2, frac(1, 10), frac(1, 30), 3, api.OK},
		{2, frac(1, 10), frac(19, 100), 2, api.OK},
		{2, frac(1, 10), frac(9, 50), 3, api.OK},
		{2, frac(1, 10), frac(7, 250), 3, api.OK},
		{2, frac(1, 10), frac(27, 1000), 4, api.OK},
		{1, frac(1, 10), frac(0, 1), 0, api.ErrNone},
		{1, frac(1, 10), frac(1, 1), 1, api.OK},
		{17, frac(1, 1), frac(1, 1), 17, api.OK},
		{1, frac(1, 1), frac(999999999, 1000000000), 0, api.ErrNone},
		{5, frac(1, 1), frac(1, 2), 0, api.ErrNone},
		{5, frac(0, 1), frac(0, 1), 5, api.OK},
		{17, frac(0, 1), frac(0, 1), 17, api.OK},
		{17, frac(1, 10), frac(0, 1), 0, api.ErrNone},
		{1, frac(1, 10), frac(1, 1000000000), 9, api.OK},
		{1, frac(1, 10), frac(1, 999999999), 9, api.OK},
		{1, frac(1, 2), frac(1, 131072), 17, api.OK},
		{1, frac(1, 2), frac(1, 131073), 0, api.ErrNone},
	} {
		n, e := press.LeastSheets(c.good, c.spoil, c.risk)
		want(t, fmt.Sprint("LeastSheets ", c.good, c.spoil, c.risk), n, e, c.wanted, c.e)
	}
}

// P9.2: what is wrong with the arguments, in their order.
func TestLeastSheetsOfWrongArguments(t *testing.T) {
	for _, good := range []int{0, 18, -1, great, small} {
		n, e := press.LeastSheets(good, frac(2, 4), frac(2, 4))
		want(t, "LeastSheets", n, e, 0, api.ErrRange)
	}
	for _, w := range wrongSpoils() {
		for _, risk := range []api.Frac{frac(1, 30), frac(2, 4), frac(2, 1)} {
			n, e := press.LeastSheets(2, w.f, risk)
			want(t, fmt.Sprint("LeastSheets, spoil ", w.f), n, e, 0, w.e)
		}
	}
	for _, w := range wrongRisks() {
		n, e := press.LeastSheets(2, frac(1, 10), w.f)
		want(t, fmt.Sprint("LeastSheets, risk ", w.f), n, e, 0, w.e)
	}
}

// P9.2, P9.7: the least sheets by the definition; with one sheet less the risk is not kept.
func TestMadeLeastSheets(t *testing.T) {
	m := newMaker(4)
	all := spoils()
	found := 0
	for range 3000 {
		good, spoil := m.from(1, 17), all[m.Intn(len(all))]
		den := m.from(1, 1000000000)
		risk := fracOf(big.NewRat(int64(m.from(0, den/m.from(1, 1+den/2))), int64(den)))
		if m.Intn(2) == 0 { // a risk that some number of sheets just keeps, or just not
			p := chanceOf(m.from(1, 9), m.from(1, 9), spoil)
			risk = fracOf(new(big.Rat).Sub(big.NewRat(1, 1), p))
		}
		if risk.Den > 1000000000 {
			continue
		}
		wanted, wantError := 0, api.ErrNone
		for sheets := 17; sheets >= good; sheets-- {
			fewer := new(big.Rat).Sub(big.NewRat(1, 1), chanceOf(sheets, good, spoil))
			if fewer.Cmp(ratOf(risk)) <= 0 {
				wanted, wantError = sheets, api.OK
			}
		}
		n, e := press.LeastSheets(good, spoil, risk)
		want(t, fmt.Sprint("LeastSheets ", good, spoil, risk), n, e, wanted, wantError)
		if e == api.OK {
			found++
		}
	}
	if found < 500 {
		t.Errorf("only %d numbers were found", found)
	}
}

// P9.7: more sheets never make the chance less, more that must be good never make it greater.
func TestMoreSheetsAreSafer(t *testing.T) {
	chance := func(sheets, good int, spoil api.Frac) *big.Rat {
		p, e := press.ChanceOf(api.SheetRun{Sheets: sheets, Good: good, Spoil: spoil})
		if e != api.OK {
			t.Fatalf("ChanceOf %d, %d, %v: error %d", sheets, good, spoil, e)
		}
		return big.NewRat(int64(p[0]), int64(p[1]))
	}
	for _, spoil := range spoils() {
		for sheets := range 17 {
			for good := range sheets + 1 {
				p := chance(sheets, good, spoil)
				if chance(sheets+1, good, spoil).Cmp(p) < 0 || chance(sheets+1, good+1, spoil).Cmp(chance(sheets+1, good, spoil)) > 0 {
					t.Errorf("at least %d of %d, spoil %v: the chances do not ascend with sheets, or descend with good ones", good, sheets, spoil)
				}
			}
		}
	}
}

// P9.2: how many good sheets are to be expected.
func TestExpectedGood(t *testing.T) {
	for _, c := range []struct {
		sheets        int
		spoil, wanted api.Frac
	}{
		{3, frac(1, 10), frac(27, 10)},
		{10, frac(1, 10), frac(9, 1)},
		{0, frac(1, 10), frac(0, 1)},
		{2000, frac(1, 1), frac(0, 1)},
		{2000, frac(0, 1), frac(2000, 1)},
		{2000, frac(2, 3), frac(2000, 3)},
		{4, frac(1, 6), frac(10, 3)},
	} {
		f, e := press.ExpectedGood(c.sheets, c.spoil)
		want(t, fmt.Sprint("ExpectedGood ", c.sheets, c.spoil), f, e, c.wanted, api.OK)
	}
	for _, spoil := range spoils() {
		for sheets := range 121 {
			wanted := new(big.Rat).Sub(big.NewRat(1, 1), ratOf(spoil))
			wanted.Mul(wanted, big.NewRat(int64(sheets), 1))
			f, e := press.ExpectedGood(sheets, spoil)
			want(t, fmt.Sprint("ExpectedGood ", sheets, spoil), f, e, fracOf(wanted), api.OK)
		}
	}
	for _, sheets := range []int{-1, 2001, great, small} {
		f, e := press.ExpectedGood(sheets, frac(2, 4))
		want(t, "ExpectedGood", f, e, api.Frac{}, api.ErrRange)
	}
	for _, w := range wrongSpoils() {
		f, e := press.ExpectedGood(3, w.f)
		want(t, fmt.Sprint("ExpectedGood, spoil ", w.f), f, e, api.Frac{}, w.e)
	}
}
