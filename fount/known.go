package fount

import "tympan/api"

// printedBytes has, for each kind, how many bytes its sorts print at least and at most.
var printedBytes = [...][2]int{
	api.SortLetter:   {1, 1},
	api.SortLigature: {2, api.MaxPrinted},
	api.SortSpace:    {0, 0},
}

// known is what is known of the sorts so far: the numbers of the sorts by their names, and of
// those that print something by what they print.
type known struct {
	names, texts map[string]int
}

func nothingKnown() known {
	return known{names: map[string]int{}, texts: map[string]int{}}
}

// learn returns what is known of all sorts of a fount, or the first error of the fount with the
// number of its sort.
func learn(f api.Fount) (known, int, api.Errno) {
	k := nothingKnown()
	if e := errorOfFrame(f); e != api.OK {
		return k, 0, e
	}
	for i, s := range f.Sorts {
		if e := k.errorOfSort(s); e != api.OK {
			return k, i, e
		}
		k.add(s)
	}
	return k, 0, api.OK
}

// errorOfFrame tells what is wrong with a fount, whatever its sorts are.
func errorOfFrame(f api.Fount) api.Errno {
	switch {
	case !isName(f.Name):
		return api.ErrName
	case f.Body < 1 || f.Body > api.MaxBody:
		return api.ErrRange
	case len(f.Sorts) == 0:
		return api.ErrShape
	case len(f.Sorts) > api.MaxSorts:
		return api.ErrLarge
	}
	return api.OK
}

// add takes a sort that has no error as the next one.
func (k known) add(s api.TypeSort) {
	number := len(k.names)
	k.names[s.Name] = number
	if s.Kind != api.SortSpace {
		k.texts[s.Text] = number
	}
}

func (k known) errorOfSort(s api.TypeSort) api.Errno {
	if e := k.errorOfName(s.Name); e != api.OK {
		return e
	}
	if s.Kind < api.SortLetter || s.Kind > api.SortSpace {
		return api.ErrKind
	}
	if e := errorOfWidth(s.Width); e != api.OK {
		return e
	}
	return k.errorOfText(s.Kind, s.Text)
}

func (k known) errorOfName(name string) api.Errno {
	if !isName(name) {
		return api.ErrName
	}
	if _, ok := k.names[name]; ok {
		return api.ErrExists
	}
	return api.OK
}

// errorOfText needs a kind that is one. Spaces never clash: no text of theirs is known.
func (k known) errorOfText(kind int, text string) api.Errno {
	if len(text) < printedBytes[kind][0] || len(text) > printedBytes[kind][1] {
		return api.ErrForm
	}
	for i := range len(text) {
		if text[i] < '!' || text[i] > '~' {
			return api.ErrForm
		}
	}
	if _, ok := k.texts[text]; ok {
		return api.ErrClash
	}
	return api.OK
}

func errorOfWidth(width int) api.Errno {
	if width < 1 || width > api.MaxWidth {
		return api.ErrRange
	}
	return api.OK
}

func isName(s string) bool {
	if len(s) < 1 || len(s) > api.MaxName || !isLetter(s[0]) {
		return false
	}
	for i := range len(s) {
		if !isLetter(s[i]) && !isDigit(s[i]) && s[i] != '-' {
			return false
		}
	}
	return true
}

func isLetter(b byte) bool {
	return b >= 'a' && b <= 'z' || b >= 'A' && b <= 'Z'
}

func isDigit(b byte) bool {
	return b >= '0' && b <= '9'
}
