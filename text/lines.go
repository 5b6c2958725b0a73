package text

import (
	"tympan/api"
	"tympan/fount"
)

const maxReadLines = 400

// ReadBack: see the chapter.
func ReadBack(f api.Fount, lines []api.TypeLine, broken []bool) ([]string, api.Errno) {
	if _, e := fount.CheckFount(f); e != api.OK {
		return nil, e
	}
	if len(broken) != len(lines) {
		return nil, api.ErrShape
	}
	if len(lines) > maxReadLines {
		return nil, api.ErrLarge
	}
	for i := range lines {
		if e := errorOfLine(f, lines[i:], broken[i]); e != api.OK {
			return nil, e
		}
	}
	r := typeReader{fount: f}
	for i, line := range lines {
		r.readLine(line.Sorts, broken[i])
	}
	return r.words, api.OK
}

// errorOfLine tells what is wrong with the first one of at least one line.
func errorOfLine(f api.Fount, lines []api.TypeLine, broken bool) api.Errno {
	sorts := lines[0].Sorts
	if len(sorts) > api.MaxLineSet {
		return api.ErrLarge
	}
	for _, sort := range sorts {
		if !hasSort(f, sort) {
			return api.ErrMissing
		}
	}
	if !broken {
		return api.OK
	}
	if len(sorts) == 0 || f.Sorts[sorts[len(sorts)-1]].Text != "-" {
		return api.ErrForm
	}
	if len(lines) == 1 || !beginsWithWord(f, lines[1].Sorts) {
		return api.ErrOpen
	}
	return api.OK
}

func beginsWithWord(f api.Fount, sorts []int) bool {
	return len(sorts) > 0 && hasSort(f, sorts[0]) && f.Sorts[sorts[0]].Kind != api.SortSpace
}

// typeReader reads lines without errors: word is what has been read of a word so far.
type typeReader struct {
	fount api.Fount
	words []string
	word  []byte
}

func (r *typeReader) readLine(sorts []int, broken bool) {
	if broken {
		sorts = sorts[:len(sorts)-1]
	}
	for _, sort := range sorts {
		if s := r.fount.Sorts[sort]; s.Kind == api.SortSpace {
			r.endWord()
		} else {
			r.word = append(r.word, s.Text...)
		}
	}
	if !broken {
		r.endWord()
	}
}

func (r *typeReader) endWord() {
	if len(r.word) > 0 {
		r.words = append(r.words, string(r.word))
		r.word = r.word[:0]
	}
}
