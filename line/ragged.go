package line

import (
	"slices"

	"tympan/api"
)

// Ragged: see the chapter.
func Ragged(t api.LineTask, r api.LineRagged) (api.TypeLine, api.Errno) {
	room, e := roomOf(t)
	if e != api.OK {
		return api.TypeLine{}, e
	}
	if !hasSort(t.Fount, r.Gap) {
		return api.TypeLine{}, api.ErrMissing
	}
	if !isSpace(t.Fount, r.Gap) || r.Side < api.LineLeft || r.Side > api.LineCentre {
		return api.TypeLine{}, api.ErrKind
	}
	gaps := slices.Repeat([][]int{{r.Gap}}, room.gaps)
	left, e := taken(t.Fount, room.left, slices.Concat(gaps...)...)
	if e != api.OK {
		return api.TypeLine{}, e
	}
	rest := room.fill - room.gaps*t.Fount.Sorts[r.Gap].Width
	if rest < 0 {
		return api.TypeLine{}, api.ErrBreak
	}
	ahead, behind, e := endsOf(t.Fount, left, rest, r.Side)
	if e != api.OK {
		return api.TypeLine{}, e
	}
	sorts := slices.Concat(t.Indent, ahead, between(t.Words, gaps), behind)
	return api.TypeLine{Measure: t.Measure, Sorts: sorts}, api.OK
}

// endsOf returns the spaces ahead of the words, and behind them, that fill the rest of a line.
func endsOf(f api.Fount, left []int, rest, side int) ([]int, []int, api.Errno) {
	if side == api.LineCentre {
		if rest%2 != 0 {
			return nil, nil, api.ErrNone
		}
		left, rest = halved(left), rest/2
	}
	counts, e := Fill(f, left, rest)
	if e != api.OK {
		return nil, nil, e
	}
	end := rowOf(f, counts)
	switch side {
	case api.LineLeft:
		return nil, end, api.OK
	case api.LineRight:
		return end, nil, api.OK
	}
	return end, end, api.OK
}

func halved(counts []int) []int {
	halves := make([]int, len(counts))
	for i, count := range counts {
		halves[i] = count / 2
	}
	return halves
}
