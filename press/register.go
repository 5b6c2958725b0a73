package press

import "tympan/api"

// enclosuresOf returns the numbers of a pin.
func enclosuresOf(p api.PressPin) [3]api.Range {
	return [3]api.Range{p.Column, p.Row, p.Turn}
}

// CheckPins: see the chapter.
func CheckPins(l []api.PressPin) api.Errno {
	if len(l) < 2 {
		return api.ErrShape
	}
	if len(l) > api.MaxPins {
		return api.ErrLarge
	}
	for _, p := range l {
		if e := errorOfPin(p); e != api.OK {
			return e
		}
	}
	return api.OK
}

func errorOfPin(p api.PressPin) api.Errno {
	for _, r := range enclosuresOf(p) {
		if !isPinPlace(r.Lo) || !isPinPlace(r.Hi) {
			return api.ErrRange
		}
	}
	for _, r := range enclosuresOf(p) {
		if r.Lo > r.Hi {
			return api.ErrOrder
		}
	}
	return api.OK
}

func isPinPlace(n int) bool {
	return isFrom(-api.MaxPinPlace, api.MaxPinPlace, n)
}

// Offset: see the chapter.
func Offset(l []api.PressPin, pair [2]int) ([3]api.Range, api.Errno) {
	if e := CheckPins(l); e != api.OK {
		return [3]api.Range{}, e
	}
	for _, colour := range pair {
		if !isFrom(0, len(l)-1, colour) {
			return [3]api.Range{}, api.ErrMissing
		}
	}
	return offset(l[pair[0]], l[pair[1]]), api.OK
}

func offset(first, second api.PressPin) [3]api.Range {
	differences, others := enclosuresOf(first), enclosuresOf(second)
	for i, other := range others {
		differences[i].Lo -= other.Hi
		differences[i].Hi -= other.Lo
	}
	return differences
}

// InRegister: see the chapter.
func InRegister(l []api.PressPin, most int) (int, api.Errno) {
	if e := CheckPins(l); e != api.OK {
		return 0, e
	}
	if !isFrom(0, api.MaxPinPlace, most) {
		return 0, api.ErrRange
	}
	answer := api.RegisterYes
	for i, first := range l {
		for _, second := range l[i+1:] {
			for _, difference := range offset(first, second) {
				// A surer no is a lesser answer.
				answer = min(answer, agreement(difference, most))
			}
		}
	}
	return answer, api.OK
}

// agreement tells whether two numbers agree, by the enclosure of their difference.
func agreement(difference api.Range, most int) int {
	switch {
	case difference.Lo > most || difference.Hi < -most:
		return api.RegisterNo
	case difference.Lo >= -most && difference.Hi <= most:
		return api.RegisterYes
	}
	return api.RegisterMaybe
}
