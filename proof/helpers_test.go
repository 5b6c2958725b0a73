package proof_test

import (
	"math/rand"
	"reflect"
	"slices"
	"strconv"
	"strings"
	"testing"

	"tympan/api"
	"tympan/proof"
	"tympan/text"
)

// great is a number that no limit allows, small the least one of all.
const (
	great = 1<<63 - 1
	small = -great - 1
)

// mark is the mark with a text.
func mark(s string) api.ProofMark {
	m, e := proof.ParseMark(s)
	if e != api.OK {
		panic("no mark: " + s)
	}
	return m
}

// marks is the marks with texts.
func marks(texts ...string) []api.ProofMark {
	var l []api.ProofMark
	for _, s := range texts {
		l = append(l, mark(s))
	}
	return l
}

// texts is the texts of marks.
func texts(l []api.ProofMark) []string {
	var s []string
	for _, m := range l {
		s = append(s, proof.FormatMark(m))
	}
	return s
}

// copyOf is a copy in a line: its parts with " / " between, each one with "#" or "^" ahead if it is no
// paragraph.
func copyOf(line string) []api.CopyPart {
	l, _, e := text.Parse(strings.ReplaceAll(line, " / ", "\n\n"))
	if e != api.OK {
		panic("no copy: " + line)
	}
	return l
}

// lineOf undoes copyOf.
func lineOf(l []api.CopyPart) string {
	var parts []string
	for _, p := range l {
		first := map[int]string{api.CopyHeading: "# ", api.CopyNote: "^ "}[p.Kind]
		parts = append(parts, first+strings.Join(p.Words, " "))
	}
	return strings.Join(parts, " / ")
}

// many is so many words, all different.
func many(count int) []string {
	var words []string
	for i := range count {
		words = append(words, "w"+strconv.Itoa(i))
	}
	return words
}

func body(words ...string) api.CopyPart {
	return api.CopyPart{Kind: api.CopyBody, Words: words}
}

// fox is the copy of the examples.
func fox() []api.CopyPart {
	return copyOf("the quick fox")
}

// alike tells whether two values are equal, if a nil slice and an empty one are the same.
func alike(a, b any) bool {
	return alikeValues(reflect.ValueOf(a), reflect.ValueOf(b))
}

func alikeValues(a, b reflect.Value) bool {
	switch a.Kind() {
	case reflect.Slice, reflect.Array:
		if a.Len() != b.Len() {
			return false
		}
		for i := range a.Len() {
			if !alikeValues(a.Index(i), b.Index(i)) {
				return false
			}
		}
		return true
	case reflect.Struct:
		for i := range a.NumField() {
			if !alikeValues(a.Field(i), b.Field(i)) {
				return false
			}
		}
		return true
	}
	return a.Interface() == b.Interface()
}

// want fails the test if a result with an error is not the one that is wanted.
func want[T any](t *testing.T, what string, got T, e api.Errno, wanted T, wantError api.Errno) {
	t.Helper()
	if e != wantError || !alike(got, wanted) {
		t.Errorf("%s: %v, error %d, want %v, error %d", what, got, e, wanted, wantError)
	}
}

// maker makes copies and marks, the same ones in every run.
type maker struct{ *rand.Rand }

func newMaker(seed int64) maker {
	return maker{rand.New(rand.NewSource(seed))}
}

// word makes a word: one of a few, if there are to be equal ones.
func (m maker) word(kinds int) string {
	return string(rune('a' + m.Intn(kinds)))
}

// words makes so many words.
func (m maker) words(count, kinds int) []string {
	var words []string
	for range count {
		words = append(words, m.word(kinds))
	}
	return words
}

// numbers makes so many numbers from 0 on.
func (m maker) numbers(count, kinds int) []int {
	var numbers []int
	for range count {
		numbers = append(numbers, m.Intn(kinds))
	}
	return numbers
}

// kind makes a kind of parts.
func (m maker) kind() int {
	return 1 + m.Intn(3)
}

// copy makes a copy of at most so many parts.
func (m maker) copy(parts, kinds int) []api.CopyPart {
	var l []api.CopyPart
	for range 1 + m.Intn(parts) {
		l = append(l, api.CopyPart{Kind: m.kind(), Words: m.words(1+m.Intn(5), kinds)})
	}
	return l
}

// mark makes a right mark that can nearly always be applied to a copy.
func (m maker) mark(l []api.CopyPart, kinds int) api.ProofMark {
	for {
		part := m.Intn(len(l))
		words := l[part].Words
		x := api.ProofMark{Mark: 1 + m.Intn(7), Part: part, Word: m.Intn(len(words) + 1)}
		old := words[min(x.Word, len(words)-1)]
		switch x.Mark {
		case api.MarkOut:
			x.Old = old
		case api.MarkIn:
			x.New = m.word(kinds)
		case api.MarkChange:
			x.Old, x.New = old, m.word(kinds)
		case api.MarkBreak:
			x.Kind = m.kind()
		case api.MarkJoin:
			x.Word, x.Kind = len(words), l[min(part+1, len(l)-1)].Kind
		case api.MarkTurn:
			x.Word, x.Was, x.Kind = 0, l[part].Kind, m.kind()
		}
		if proof.CheckMark(x) == api.OK {
			return x
		}
	}
}

// applied makes a mark that can be applied to a copy, and returns the copy behind it.
func (m maker) applied(l []api.CopyPart, kinds int) (api.ProofMark, []api.CopyPart) {
	for {
		x := m.mark(l, kinds)
		if behind, e := proof.Applied(l, x); e == api.OK {
			return x, behind
		}
	}
}

// proofOf makes so many marks that can be applied to a copy, one after the other.
func (m maker) proofOf(l []api.CopyPart, count, kinds int) []api.ProofMark {
	var marks []api.ProofMark
	for range count {
		x, behind := m.applied(l, kinds)
		marks = append(marks, x)
		l = behind
	}
	return slices.Clip(marks)
}
