package forme

import (
	"strconv"
	"strings"

	"tympan/api"
)

const (
	chaseWord = "chase"
	maxDigits = 7
)

// kindWords is the words of the kinds of pieces.
var kindWords = [...]string{
	api.PiecePage:        "page",
	api.PieceFurniture:   "furniture",
	api.PieceQuoinAcross: "across",
	api.PieceQuoinDown:   "down",
}

// Print: see the chapter.
func Print(f api.Forme) (string, api.Errno) {
	if _, e := CheckForme(f); e != api.OK {
		return "", e
	}
	var b strings.Builder
	writeLine(&b, chaseWord, f.Width, f.Height)
	for _, p := range f.Pieces {
		writeLine(&b, kindWords[p.Kind]+" "+p.Name, p.X, p.Y, p.Width, p.Height)
	}
	return b.String(), api.OK
}

func writeLine(b *strings.Builder, words string, numbers ...int) {
	b.WriteString(words)
	for _, n := range numbers {
		b.WriteString(" " + strconv.Itoa(n))
	}
	b.WriteByte('\n')
}

// Parse: see the chapter.
func Parse(s string) (api.Forme, int, api.Errno) {
	if len(s) > api.MaxText {
		return api.Forme{}, 0, api.ErrLarge
	}
	if s == "" {
		return api.Forme{}, 1, api.ErrSyntax
	}
	var f api.Forme
	number := 0
	for line := range strings.Lines(s) {
		number++
		if !readLine(&f, line, number == 1) {
			return api.Forme{}, number, api.ErrSyntax
		}
	}
	if _, e := CheckForme(f); e != api.OK {
		return api.Forme{}, 0, e
	}
	return f, 0, api.OK
}

// readLine adds to a forme what a line, with its line feed, says, and tells whether it has its form.
func readLine(f *api.Forme, line string, isFirst bool) bool {
	line, isWhole := strings.CutSuffix(line, "\n")
	words := strings.Split(line, " ")
	if !isWhole {
		return false
	}
	if isFirst {
		return words[0] == chaseWord && readNumbers(words[1:], &f.Width, &f.Height)
	}
	kind := kindOf(words[0])
	if kind == 0 || len(words) < 2 {
		return false
	}
	p := api.FormePiece{Name: words[1], Kind: kind}
	isPiece := readNumbers(words[2:], &p.X, &p.Y, &p.Width, &p.Height)
	f.Pieces = append(f.Pieces, p)
	return isPiece
}

// kindOf returns the kind of pieces that a word names, or 0.
func kindOf(word string) int {
	for kind, other := range kindWords {
		if kind > 0 && word == other {
			return kind
		}
	}
	return 0
}

// readNumbers reads as many numbers as there are places for them.
func readNumbers(words []string, places ...*int) bool {
	if len(words) != len(places) {
		return false
	}
	for i, word := range words {
		n, ok := numberOf(word)
		if !ok {
			return false
		}
		*places[i] = n
	}
	return true
}

// numberOf reads a number of at most 7 digits.
func numberOf(text string) (int, bool) {
	if len(strings.TrimPrefix(text, "-")) > maxDigits {
		return 0, false
	}
	n, err := strconv.Atoi(text)
	// What is written otherwise (with "+", with leading zeros, "-0") is no number.
	return n, err == nil && strconv.Itoa(n) == text
}
