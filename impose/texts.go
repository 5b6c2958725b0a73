package impose

import (
	"strconv"
	"strings"

	"tympan/api"
)

// foldLetters has the letters of the kinds of folds, from FoldLeft on; noKind stands for what is none.
const (
	foldLetters = "LRUDOT"
	noKind      = "?"
)

// The most digits of the number of columns or rows that a fold lays over, and of a number of a scheme.
const (
	foldDigits   = 2
	schemeDigits = 4
)

// FormatFolds: see the chapter.
func FormatFolds(l []api.ImposeFold) string {
	words := make([]string, len(l))
	for i, f := range l {
		words[i] = wordOf(f)
	}
	return strings.Join(words, " ")
}

func wordOf(f api.ImposeFold) string {
	letter := noKind
	if isFrom(api.FoldLeft, api.FoldRound, f.Kind) {
		letter = foldLetters[f.Kind-1 : f.Kind]
	}
	if turnsAll(f.Kind) {
		return letter
	}
	return letter + strconv.Itoa(f.Count)
}

// ParseFolds: see the chapter.
func ParseFolds(s string) ([]api.ImposeFold, api.Errno) {
	if s == "" {
		return nil, api.OK
	}
	words := strings.SplitN(s, " ", api.MaxFolds+1)
	if len(words) > api.MaxFolds {
		return nil, api.ErrLarge
	}
	var folds []api.ImposeFold
	for _, word := range words {
		f, ok := foldOf(word)
		if !ok {
			return nil, api.ErrSyntax
		}
		folds = append(folds, f)
	}
	return folds, api.OK
}

// foldOf returns the fold with a word.
func foldOf(word string) (api.ImposeFold, bool) {
	if word == "" {
		return api.ImposeFold{}, false
	}
	f := api.ImposeFold{Kind: strings.IndexByte(foldLetters, word[0]) + 1}
	if turnsAll(f.Kind) {
		return f, len(word) == 1
	}
	count, ok := numberOf(word[1:], foldDigits)
	f.Count = count
	return f, ok && f.Kind > 0 && count >= 0
}

// Print: see the chapter.
func Print(s api.ImposeScheme) (string, api.Errno) {
	if _, e := CheckScheme(s); e != api.OK {
		return "", e
	}
	var b strings.Builder
	b.WriteString(joined(" ", s.Columns, s.Rows) + "\n")
	for i, cell := range s.Cells {
		b.WriteString(joined("/", cell.Front, cell.FrontTurn, cell.Back, cell.BackTurn))
		if (i+1)%s.Columns == 0 {
			b.WriteByte('\n')
		} else {
			b.WriteByte(' ')
		}
	}
	return b.String(), api.OK
}

func joined(between string, numbers ...int) string {
	texts := make([]string, len(numbers))
	for i, n := range numbers {
		texts[i] = strconv.Itoa(n)
	}
	return strings.Join(texts, between)
}

// Parse: see the chapter.
func Parse(s string) (api.ImposeScheme, int, api.Errno) {
	if len(s) > api.MaxText {
		return api.ImposeScheme{}, 0, api.ErrLarge
	}
	if s == "" {
		return api.ImposeScheme{}, 1, api.ErrSyntax
	}
	var r reading
	for line := range strings.Lines(s) {
		r.lines++
		if !r.readLine(line) {
			return api.ImposeScheme{}, r.lines, api.ErrSyntax
		}
	}
	if r.lines-1 != r.scheme.Rows || r.isUneven {
		return api.ImposeScheme{}, 0, api.ErrShape
	}
	if _, e := CheckScheme(r.scheme); e != api.OK {
		return api.ImposeScheme{}, 0, e
	}
	return r.scheme, 0, api.OK
}

// reading is what has been read of a scheme: so many lines, and whether one of them has not as many
// cells as the scheme has columns.
type reading struct {
	scheme   api.ImposeScheme
	lines    int
	isUneven bool
}

// readLine reads a line, with its line feed, and tells whether it has its form.
func (r *reading) readLine(line string) bool {
	line, isWhole := strings.CutSuffix(line, "\n")
	if !isWhole {
		return false
	}
	if r.lines == 1 {
		sides, ok := numbersOf(line, " ", 2)
		if ok {
			r.scheme.Columns, r.scheme.Rows = sides[0], sides[1]
		}
		return ok
	}
	cells := 0
	for word := range strings.SplitSeq(line, " ") {
		n, ok := numbersOf(word, "/", 4)
		if !ok {
			return false
		}
		cell := api.ImposeCell{Front: n[0], FrontTurn: n[1], Back: n[2], BackTurn: n[3]}
		r.scheme.Cells = append(r.scheme.Cells, cell)
		cells++
	}
	if cells != r.scheme.Columns {
		r.isUneven = true
	}
	return true
}

// numbersOf reads so many numbers with a text between each two of them.
func numbersOf(text, between string, count int) ([]int, bool) {
	words := strings.Split(text, between)
	if len(words) != count {
		return nil, false
	}
	numbers := make([]int, count)
	for i, word := range words {
		n, ok := numberOf(word, schemeDigits)
		if !ok {
			return nil, false
		}
		numbers[i] = n
	}
	return numbers, true
}

// numberOf reads a number of at most so many digits.
func numberOf(text string, digits int) (int, bool) {
	if len(strings.TrimPrefix(text, "-")) > digits {
		return 0, false
	}
	n, err := strconv.Atoi(text)
	// What is written otherwise (with "+", with leading zeros, "-0") is no number.
	return n, err == nil && strconv.Itoa(n) == text
}
