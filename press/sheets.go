package press

import (
	"math/bits"

	"tympan/api"
)

// errorOfChance tells what is wrong with a chance whose denominator is at most so great.
func errorOfChance(f api.Frac, maxDen int) api.Errno {
	switch {
	case f.Den < 1 || divisorOf(f.Num, f.Den) != 1:
		return api.ErrForm
	case !isFrom(0, f.Den, f.Num) || f.Den > maxDen:
		return api.ErrRange
	}
	return api.OK
}

func errorOfSpoil(spoil api.Frac) api.Errno {
	return errorOfChance(spoil, api.MaxSpoil)
}

// divisorOf returns the greatest common divisor of two numbers, the second one above 0.
func divisorOf(a, b int) int {
	for b != 0 {
		a, b = b, a%b
	}
	return max(a, -a)
}

// weightsOf returns, for each number of good sheets from 0 on, its chance times the sum of them all,
// which is the denominator of the spoil to the power of the sheets.
func weightsOf(sheets int, spoil api.Frac) []int {
	weights := []int{1}
	for range sheets {
		next := make([]int, len(weights)+1)
		for good, weight := range weights {
			next[good] += weight * spoil.Num
			next[good+1] += weight * (spoil.Den - spoil.Num)
		}
		weights = next
	}
	return weights
}

// ChanceOf: see the chapter.
func ChanceOf(s api.SheetRun) ([2]int, api.Errno) {
	if !isFrom(0, api.MaxRiskSheets, s.Sheets) || !isFrom(0, s.Sheets, s.Good) {
		return [2]int{}, api.ErrRange
	}
	if e := errorOfSpoil(s.Spoil); e != api.OK {
		return [2]int{}, e
	}
	weights := weightsOf(s.Sheets, s.Spoil)
	enough, all := sumOf(weights[s.Good:]), sumOf(weights)
	divisor := divisorOf(enough, all)
	return [2]int{enough / divisor, all / divisor}, api.OK
}

// LeastSheets: see the chapter.
func LeastSheets(good int, spoil, risk api.Frac) (int, api.Errno) {
	if !isFrom(1, api.MaxRiskSheets, good) {
		return 0, api.ErrRange
	}
	if e := errorOfSpoil(spoil); e != api.OK {
		return 0, e
	}
	if e := errorOfChance(risk, api.MaxPart); e != api.OK {
		return 0, e
	}
	for sheets := good; sheets <= api.MaxRiskSheets; sheets++ {
		weights := weightsOf(sheets, spoil)
		if isAtMost(sumOf(weights[:good]), sumOf(weights), risk) {
			return sheets, api.OK
		}
	}
	return 0, api.ErrNone
}

// isAtMost tells whether a part of a whole is at most a fraction, all of them at least 0.
func isAtMost(part, whole int, f api.Frac) bool {
	// The products may be greater than all numbers are.
	hi, lo := bits.Mul64(uint64(part), uint64(f.Den))
	mostHi, mostLo := bits.Mul64(uint64(f.Num), uint64(whole))
	return hi < mostHi || hi == mostHi && lo <= mostLo
}

// ExpectedGood: see the chapter.
func ExpectedGood(sheets int, spoil api.Frac) (api.Frac, api.Errno) {
	if !isFrom(0, api.MaxPressSheets, sheets) {
		return api.Frac{}, api.ErrRange
	}
	if e := errorOfSpoil(spoil); e != api.OK {
		return api.Frac{}, e
	}
	num := sheets * (spoil.Den - spoil.Num)
	divisor := divisorOf(num, spoil.Den)
	return api.Frac{Num: num / divisor, Den: spoil.Den / divisor}, api.OK
}
