package press

import "tympan/api"

const (
	minutesOfHour = 60
	maxHour       = 10000
)

// CheckRun: see the chapter.
func CheckRun(x api.PressRun) api.Errno {
	switch {
	case !isName(x.Job):
		return api.ErrName
	case !isFrom(0, api.MaxDay, x.Day), !isFrom(1, api.MaxPressSheets, x.Wanted), !isFrom(x.Wanted, api.MaxPressSheets, x.Given):
		return api.ErrRange
	case len(x.Colours) == 0:
		return api.ErrShape
	case len(x.Colours) > api.MaxColours:
		return api.ErrLarge
	}
	colours := names{}
	for _, colour := range x.Colours {
		if e := colours.add(colour); e != api.OK {
			return e
		}
	}
	if !isRunMinutes(x.Ready) || !isFrom(1, maxHour, x.Hour) {
		return api.ErrRange
	}
	return api.OK
}

// RunMinutes: see the chapter.
func RunMinutes(x api.PressRun) (int, api.Errno) {
	if e := CheckRun(x); e != api.OK {
		return 0, e
	}
	return runMinutes(x), api.OK
}

func runMinutes(x api.PressRun) int {
	colours := len(x.Colours)
	return x.Ready*colours + dividedUp(minutesOfHour*x.Given*colours, x.Hour)
}

// dividedUp returns a number, at least 0, divided by another one, rounded up.
func dividedUp(n, by int) int {
	return (n + by - 1) / by
}

// Estimate: see the chapter.
func Estimate(x api.PressRun, p api.PressPrices) (int, api.Errno) {
	if e := CheckRun(x); e != api.OK {
		return 0, e
	}
	for _, price := range []int{p.Sheet, p.Colour, p.Hour} {
		if !isFrom(0, api.MaxPrice, price) {
			return 0, api.ErrRange
		}
	}
	material := x.Given*p.Sheet + len(x.Colours)*p.Colour
	return material + dividedUp(runMinutes(x)*p.Hour, minutesOfHour), api.OK
}
