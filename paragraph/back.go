package paragraph

import (
	"slices"

	"tympan/api"
	"tympan/fount"
	"tympan/line"
)

// Broken: see the chapter.
func Broken(f api.Fount, words []api.ParagraphWord, breaks []int) ([]bool, api.Errno) {
	if _, e := CheckWords(f, words); e != api.OK {
		return nil, e
	}
	places := placesOf(words)
	if e := errorOfBreaks(len(places), breaks); e != api.OK {
		return nil, e
	}
	broken := make([]bool, len(breaks))
	for i, to := range breaks {
		broken[i] = places[to].Part > 0
	}
	return broken, api.OK
}

// Joined: see the chapter.
func Joined(f api.Fount, lines []api.TypeLine, broken []bool) ([][]int, api.Errno) {
	if _, e := fount.CheckFount(f); e != api.OK {
		return nil, e
	}
	if len(broken) != len(lines) || len(broken) > 0 && broken[len(broken)-1] {
		return nil, api.ErrShape
	}
	var words [][]int
	goesOn := false
	for i, l := range lines {
		read, e := line.WordsOf(f, l)
		if e != api.OK {
			return nil, e
		}
		if broken[i] && !endsWithWord(f, l.Sorts) || goesOn && !beginsWithWord(f, l.Sorts) {
			return nil, api.ErrGap
		}
		words = withWords(words, read, goesOn)
		if goesOn = broken[i]; goesOn {
			last := words[len(words)-1]
			words[len(words)-1] = last[:len(last)-1]
		}
	}
	return words, api.OK
}

func beginsWithWord(f api.Fount, sorts []int) bool {
	return len(sorts) > 0 && !isSpace(f, sorts[0])
}

func endsWithWord(f api.Fount, sorts []int) bool {
	return len(sorts) > 0 && !isSpace(f, sorts[len(sorts)-1])
}

// withWords returns words with those that have been read behind them; the last word may go on with
// the first one of these.
func withWords(words, read [][]int, goesOn bool) [][]int {
	if goesOn {
		last := len(words) - 1
		words[last] = append(words[last], read[0]...)
		read = read[1:]
	}
	return append(words, read...)
}

// SameLines: see the chapter.
func SameLines(a, b []api.TypeLine) [2]int {
	shorter := min(len(a), len(b))
	ahead := 0
	for ahead < shorter && isSame(a[ahead], b[ahead]) {
		ahead++
	}
	behind := 0
	for behind < shorter-ahead && isSame(a[len(a)-1-behind], b[len(b)-1-behind]) {
		behind++
	}
	return [2]int{ahead, behind}
}

func isSame(a, b api.TypeLine) bool {
	return a.Measure == b.Measure && slices.Equal(a.Sorts, b.Sorts)
}
