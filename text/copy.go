package text

import (
	"iter"
	"strings"

	"tympan/api"
)

const (
	headingMark = "#"
	noteMark    = "^"
)

// markOf returns what stands ahead of the words of a part of a kind, "" if nothing does.
func markOf(kind int) string {
	switch kind {
	case api.CopyHeading:
		return headingMark
	case api.CopyNote:
		return noteMark
	}
	return ""
}

// kindOf returns the kind of a part whose text begins with a word.
func kindOf(word string) int {
	switch word {
	case headingMark:
		return api.CopyHeading
	case noteMark:
		return api.CopyNote
	}
	return api.CopyBody
}

func isMark(word string) bool {
	return kindOf(word) != api.CopyBody
}

// CheckParts: see the chapter.
func CheckParts(l []api.CopyPart) (int, api.Errno) {
	if len(l) > api.MaxCopyParts {
		return 0, api.ErrLarge
	}
	for i, part := range l {
		if e := errorOfPart(part); e != api.OK {
			return i, e
		}
	}
	return 0, api.OK
}

func errorOfPart(part api.CopyPart) api.Errno {
	switch {
	case part.Kind < api.CopyBody || part.Kind > api.CopyNote:
		return api.ErrKind
	case len(part.Words) == 0:
		return api.ErrShape
	case len(part.Words) > api.MaxPartWords:
		return api.ErrLarge
	case isMark(part.Words[0]):
		return api.ErrForm
	}
	for _, word := range part.Words {
		if e := errorOfWord(word); e != api.OK {
			return e
		}
	}
	return api.OK
}

// Print: see the chapter.
func Print(l []api.CopyPart) (string, api.Errno) {
	if _, e := CheckParts(l); e != api.OK {
		return "", e
	}
	var s strings.Builder
	for i, part := range l {
		if i > 0 {
			s.WriteByte('\n')
		}
		if mark := markOf(part.Kind); mark != "" {
			s.WriteString(mark + " ")
		}
		s.WriteString(strings.Join(part.Words, " ") + "\n")
	}
	return s.String(), api.OK
}

// Parse: see the chapter.
func Parse(s string) ([]api.CopyPart, api.TextMark, api.Errno) {
	if len(s) > api.MaxText {
		return nil, api.TextMark{}, api.ErrLarge
	}
	lines := strings.Split(s, "\n")
	for i, line := range lines {
		if at, ok := firstStrange(line); ok {
			return nil, api.TextMark{Line: i + 1, Column: at + 1}, api.ErrForm
		}
	}
	var r copyReader
	for i, line := range lines {
		if mark, e := r.readLine(line, i+1); e != api.OK {
			return nil, mark, e
		}
	}
	if mark, e := r.endPart(); e != api.OK {
		return nil, mark, e
	}
	return r.parts, api.TextMark{}, api.OK
}

// firstStrange returns the place of the first byte of a line that no copy has.
func firstStrange(line string) (int, bool) {
	for i := range len(line) {
		if line[i] < ' ' || line[i] > '~' {
			return i, true
		}
	}
	return 0, false
}

// wordsIn yields the words of a line with their places in it.
func wordsIn(line string) iter.Seq2[int, string] {
	return func(yield func(int, string) bool) {
		at := 0
		for word := range strings.SplitSeq(line, " ") {
			if word != "" && !yield(at, word) {
				return
			}
			at += len(word) + 1
		}
	}
}

// copyReader reads copy word by word. The kind of its part is 0 between two parts; mark is where
// the "#" or "^" of the part stands.
type copyReader struct {
	parts []api.CopyPart
	part  api.CopyPart
	mark  api.TextMark
}

// readLine returns, beside an error, where it is.
func (r *copyReader) readLine(line string, number int) (api.TextMark, api.Errno) {
	isEmpty := true
	for at, word := range wordsIn(line) {
		isEmpty = false
		mark := api.TextMark{Line: number, Column: at + 1}
		if e := r.readWord(word, mark); e != api.OK {
			return mark, e
		}
	}
	if isEmpty {
		return r.endPart()
	}
	return api.TextMark{}, api.OK
}

func (r *copyReader) readWord(word string, mark api.TextMark) api.Errno {
	if r.part.Kind == 0 {
		if len(r.parts) == api.MaxCopyParts {
			return api.ErrLarge
		}
		r.part.Kind = kindOf(word)
		if isMark(word) {
			r.mark = mark
			return api.OK
		}
	}
	if !isWord(word) || len(r.part.Words) == 0 && isMark(word) {
		return api.ErrForm
	}
	if len(r.part.Words) == api.MaxPartWords {
		return api.ErrLarge
	}
	// A copy shall not hold its whole text.
	r.part.Words = append(r.part.Words, strings.Clone(word))
	return api.OK
}

// endPart ends the part that is read, if there is one. Beside an error it returns where it is.
func (r *copyReader) endPart() (api.TextMark, api.Errno) {
	if r.part.Kind == 0 {
		return api.TextMark{}, api.OK
	}
	if len(r.part.Words) == 0 {
		return r.mark, api.ErrMissing
	}
	r.parts = append(r.parts, r.part)
	r.part = api.CopyPart{}
	return api.TextMark{}, api.OK
}
