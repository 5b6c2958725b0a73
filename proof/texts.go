package proof

import (
	"strconv"
	"strings"

	"tympan/api"
)

const maxDigits = 7

// FormatMark: see the chapter.
func FormatMark(m api.ProofMark) string {
	f, isMark := forms()[m.Mark]
	if !isMark {
		return ""
	}
	s := f.first
	for _, field := range f.fields(&m) {
		switch x := field.(type) {
		case *string:
			s += " " + *x
		case *int:
			s += " " + strconv.Itoa(*x)
		}
	}
	return s
}

// fields returns the fields of a mark that stand in its text, in their order.
func (f form) fields(m *api.ProofMark) []any {
	fields := []any{&m.Part}
	if f.hasWord {
		fields = append(fields, &m.Word)
	}
	return append(fields, f.told(m)...)
}

// ParseMark: see the chapter.
func ParseMark(s string) (api.ProofMark, api.Errno) {
	words := strings.Split(s, " ")
	m := api.ProofMark{Mark: markNamed(words[0])}
	f, isMark := forms()[m.Mark]
	if !isMark || strings.Contains(s, "\n") || !areRead(words[1:], f.fields(&m)) {
		return api.ProofMark{}, api.ErrSyntax
	}
	if e := CheckMark(m); e != api.OK {
		return api.ProofMark{}, e
	}
	return m, api.OK
}

// markNamed returns the kind of marks whose text begins with a word, or 0.
func markNamed(first string) int {
	for mark, f := range forms() {
		if f.first == first {
			return mark
		}
	}
	return 0
}

// areRead reads words into just as many fields, and tells whether they are what belongs there.
func areRead(words []string, fields []any) bool {
	if len(words) != len(fields) {
		return false
	}
	for i, field := range fields {
		switch x := field.(type) {
		case *string:
			// A mark shall not hold its whole text.
			*x = strings.Clone(words[i])
		case *int:
			n, isNumber := numberOf(words[i])
			if !isNumber {
				return false
			}
			*x = n
		}
	}
	return true
}

// numberOf reads a number of at most 7 digits.
func numberOf(text string) (int, bool) {
	if len(strings.TrimPrefix(text, "-")) > maxDigits {
		return 0, false
	}
	n, err := strconv.Atoi(text)
	// What is written otherwise (with "+", with leading zeros, "-0") is no number.
	return n, err == nil && strconv.Itoa(n) == text
}

// Print: see the chapter.
func Print(l []api.ProofMark) (string, api.Errno) {
	if e := errorOfMarks(l); e != api.OK {
		return "", e
	}
	var s strings.Builder
	for _, m := range l {
		s.WriteString(FormatMark(m) + "\n")
	}
	return s.String(), api.OK
}

// Parse: see the chapter.
func Parse(s string) ([]api.ProofMark, int, api.Errno) {
	if len(s) > api.MaxText {
		return nil, 0, api.ErrLarge
	}
	var marks []api.ProofMark
	number := 0
	for line := range strings.Lines(s) {
		number++
		text, isWhole := strings.CutSuffix(line, "\n")
		if !isWhole {
			return nil, number, api.ErrSyntax
		}
		m, e := ParseMark(text)
		if e != api.OK {
			return nil, number, e
		}
		marks = append(marks, m)
	}
	if len(marks) > api.MaxMarks {
		return nil, 0, api.ErrLarge
	}
	return marks, 0, api.OK
}
