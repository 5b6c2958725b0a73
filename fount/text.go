package fount

import (
	"strconv"
	"strings"

	"tympan/api"
)

const (
	fountWord = "fount"
	noteWord  = "note"
	maxDigits = 7
)

// kindWords has, for each kind, the first word of the lines of its sorts.
var kindWords = [...]string{
	api.SortLetter:   "letter",
	api.SortLigature: "ligature",
	api.SortSpace:    "space",
}

// Print: see the chapter.
func Print(f api.Fount) (string, api.Errno) {
	if _, e := CheckFount(f); e != api.OK {
		return "", e
	}
	var b strings.Builder
	b.WriteString(fountWord + " " + f.Name + " " + strconv.Itoa(f.Body) + "\n")
	for _, s := range f.Sorts {
		b.WriteString(kindWords[s.Kind] + " " + s.Name + " ")
		if s.Kind != api.SortSpace {
			b.WriteString(s.Text + " ")
		}
		b.WriteString(strconv.Itoa(s.Width) + "\n")
	}
	return b.String(), api.OK
}

// Parse: see the chapter.
func Parse(t string) (api.Fount, api.TextMark, api.Errno) {
	if len(t) > api.MaxText {
		return api.Fount{}, api.TextMark{}, api.ErrLarge
	}
	r := &reader{known: nothingKnown()}
	number := 0
	for rest := t; rest != ""; {
		var line string
		line, rest, _ = strings.Cut(rest, "\n")
		number++
		words := wordsOf(line)
		if len(words) == 0 || words[0].text == noteWord {
			continue
		}
		if column, e := r.readLine(words); e != api.OK {
			return api.Fount{}, api.TextMark{Line: number, Column: column}, e
		}
	}
	if e := r.errorOfEnd(); e != api.OK {
		return api.Fount{}, api.TextMark{Line: number + 1, Column: 1}, e
	}
	return r.fount, api.TextMark{}, api.OK
}

// word is a word of a line, and the column of its first byte.
type word struct {
	text   string
	column int
}

func wordsOf(line string) []word {
	var words []word
	for i := 0; i < len(line); {
		if isBlank(line[i]) {
			i++
			continue
		}
		end := i
		for end < len(line) && !isBlank(line[end]) {
			end++
		}
		words = append(words, word{text: line[i:end], column: i + 1})
		i = end
	}
	return words
}

func isBlank(b byte) bool {
	return b == ' ' || b == '\t'
}

// reader reads the text of a fount line by line. Its fount has a body from the first line on, and
// sort is the one of the line that is read.
type reader struct {
	known
	fount api.Fount
	sort  api.TypeSort
}

// step reads a word behind the first one of a line.
type step = func(text string) api.Errno

// readLine returns the column of an error beside it.
func (r *reader) readLine(words []word) (int, api.Errno) {
	steps, e := r.stepsOf(words[0].text)
	if e != api.OK {
		return words[0].column, e
	}
	more := words[1:]
	for i, read := range steps {
		if i == len(more) {
			last := words[len(words)-1]
			return last.column + len(last.text), api.ErrMissing
		}
		if e := read(more[i].text); e != api.OK {
			return more[i].column, e
		}
	}
	if len(more) > len(steps) {
		return more[len(steps)].column, api.ErrSyntax
	}
	return 0, api.OK
}

// stepsOf begins a line with this first word, and returns what reads its other words.
func (r *reader) stepsOf(first string) ([]step, api.Errno) {
	if r.fount.Body == 0 {
		if first != fountWord {
			return nil, api.ErrSyntax
		}
		return []step{r.readFountName, r.readBody}, api.OK
	}
	kind, ok := kindOf(first)
	if !ok {
		return nil, api.ErrSyntax
	}
	if len(r.fount.Sorts) == api.MaxSorts {
		return nil, api.ErrLarge
	}
	r.sort = api.TypeSort{Kind: kind}
	if kind == api.SortSpace {
		return []step{r.readName, r.readWidth}, api.OK
	}
	return []step{r.readName, r.readText, r.readWidth}, api.OK
}

func kindOf(first string) (int, bool) {
	for kind := api.SortLetter; kind <= api.SortSpace; kind++ {
		if kindWords[kind] == first {
			return kind, true
		}
	}
	return 0, false
}

// readFountName, like the other steps, clones what it keeps: a fount shall not hold its whole text.
func (r *reader) readFountName(text string) api.Errno {
	if !isName(text) {
		return api.ErrName
	}
	r.fount.Name = strings.Clone(text)
	return api.OK
}

func (r *reader) readBody(text string) api.Errno {
	body, ok := numberOf(text)
	if !ok {
		return api.ErrSyntax
	}
	if body < 1 || body > api.MaxBody {
		return api.ErrRange
	}
	r.fount.Body = body
	return api.OK
}

func (r *reader) readName(text string) api.Errno {
	r.sort.Name = strings.Clone(text)
	return r.errorOfName(text)
}

func (r *reader) readText(text string) api.Errno {
	r.sort.Text = strings.Clone(text)
	return r.errorOfText(r.sort.Kind, text)
}

// readWidth reads the last word of a sort, and so adds the sort to the fount.
func (r *reader) readWidth(text string) api.Errno {
	width, e := widthOf(text, emOf(r.fount.Body))
	if e != api.OK {
		return e
	}
	r.sort.Width = width
	r.add(r.sort)
	r.fount.Sorts = append(r.fount.Sorts, r.sort)
	return api.OK
}

// errorOfEnd tells what is wrong behind all lines.
func (r *reader) errorOfEnd() api.Errno {
	if r.fount.Body == 0 {
		return api.ErrMissing
	}
	if len(r.fount.Sorts) == 0 {
		return api.ErrShape
	}
	return api.OK
}

// widthOf reads a width: units, or a part of the em.
func widthOf(text string, em int) (int, api.Errno) {
	first, second, isPart := strings.Cut(text, "/")
	width, ok := numberOf(first)
	if !ok {
		return 0, api.ErrSyntax
	}
	if isPart {
		parts, ok := numberOf(second)
		switch {
		case !ok:
			return 0, api.ErrSyntax
		case parts == 0:
			return 0, api.ErrZero
		case width*em%parts != 0:
			return 0, api.ErrForm
		}
		width = width * em / parts
	}
	return width, errorOfWidth(width)
}

// numberOf reads a number of 1 to 7 digits without leading zeros and without a sign.
func numberOf(text string) (int, bool) {
	if len(text) < 1 || len(text) > maxDigits || text[0] == '0' && len(text) > 1 {
		return 0, false
	}
	n := 0
	for i := range len(text) {
		if !isDigit(text[i]) {
			return 0, false
		}
		n = 10*n + int(text[i]-'0')
	}
	return n, true
}
