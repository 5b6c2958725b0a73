package page

import (
	"strconv"
	"strings"

	"tympan/api"
)

const maxDigits = 7

const noteWord = "note"

// kindWords is the words of the kinds of items.
var kindWords = [...]string{
	api.PageText:    "text",
	api.PageHeading: "heading",
	api.PageRow:     "row",
	api.PageGap:     "gap",
}

// Print: see the chapter.
func Print(g api.PageGalley) (string, api.Errno) {
	if _, e := CheckGalley(g); e != api.OK {
		return "", e
	}
	var b strings.Builder
	for _, item := range g.Items {
		writeLine(&b, kindWords[item.Kind], numbersOf(item)...)
	}
	for _, height := range g.Notes {
		writeLine(&b, noteWord, height)
	}
	return b.String(), api.OK
}

// numbersOf returns the numbers in the line of an item.
func numbersOf(item api.PageItem) []int {
	numbers := []int{item.Height}
	if item.Kind == api.PageText {
		numbers = append(numbers, item.Line, item.Of)
	}
	if callsNote(item) {
		numbers = append(numbers, item.Note)
	}
	return numbers
}

func writeLine(b *strings.Builder, word string, numbers ...int) {
	b.WriteString(word)
	for _, n := range numbers {
		b.WriteString(" " + strconv.Itoa(n))
	}
	b.WriteByte('\n')
}

// Parse: see the chapter.
func Parse(s string) (api.PageGalley, int, api.Errno) {
	if len(s) > api.MaxText {
		return api.PageGalley{}, 0, api.ErrLarge
	}
	var g api.PageGalley
	number := 0
	for text := range strings.Lines(s) {
		number++
		if !readLine(&g, text) {
			return api.PageGalley{}, number, api.ErrSyntax
		}
	}
	if _, e := CheckGalley(g); e != api.OK {
		return api.PageGalley{}, 0, e
	}
	return g, 0, api.OK
}

// readLine adds to a galley what a line, with its line feed, says, and tells whether it may stand
// there.
func readLine(g *api.PageGalley, text string) bool {
	text, isWhole := strings.CutSuffix(text, "\n")
	word, numbers, areNumbers := readWords(text)
	if !isWhole || !areNumbers {
		return false
	}
	if word == noteWord {
		g.Notes = append(g.Notes, numbers...)
		return len(numbers) == 1
	}
	item, isItem := itemOf(word, numbers)
	g.Items = append(g.Items, item)
	return isItem && len(g.Notes) == 0
}

// readWords returns the first word of a line, and the numbers behind it.
func readWords(text string) (string, []int, bool) {
	words := strings.Split(text, " ")
	var numbers []int
	for _, word := range words[1:] {
		n, ok := numberOf(word)
		if !ok {
			return "", nil, false
		}
		numbers = append(numbers, n)
	}
	return words[0], numbers, true
}

// itemOf returns the item whose line has this word and these numbers.
func itemOf(word string, numbers []int) (api.PageItem, bool) {
	item := api.PageItem{Kind: kindOf(word), Note: -1}
	sizes := 1
	if item.Kind == api.PageText {
		sizes = 3
	}
	if item.Kind == 0 || !isFrom(sizes, sizes+1, len(numbers)) {
		return api.PageItem{}, false
	}
	item.Height = numbers[0]
	if item.Kind == api.PageText {
		item.Line, item.Of = numbers[1], numbers[2]
	}
	if len(numbers) > sizes {
		item.Note = numbers[sizes]
		// No text has the number of a note that is not called.
		return item, callsNote(item)
	}
	return item, true
}

// kindOf returns the kind of items that a word names, or 0.
func kindOf(word string) int {
	for kind, other := range kindWords {
		if kind > 0 && word == other {
			return kind
		}
	}
	return 0
}

// numberOf reads a number of at most 7 digits.
func numberOf(text string) (int, bool) {
	if len(strings.TrimPrefix(text, "-")) > maxDigits {
		return 0, false
	}
	n, err := strconv.Atoi(text)
	// What is written otherwise (with "+", with leading zeros, "-0") is no number.
	return n, err == nil && strconv.Itoa(n) == text
}
