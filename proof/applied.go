package proof

import (
	"slices"

	"tympan/api"
	"tympan/text"
)

// Applied: see the chapter.
func Applied(l []api.CopyPart, m api.ProofMark) ([]api.CopyPart, api.Errno) {
	if _, e := text.CheckParts(l); e != api.OK {
		return nil, e
	}
	if e := CheckMark(m); e != api.OK {
		return nil, e
	}
	return copyBehind(copyOf(l), m)
}

// AppliedAll: see the chapter.
func AppliedAll(l []api.CopyPart, marks []api.ProofMark) ([]api.CopyPart, int, api.Errno) {
	if _, e := text.CheckParts(l); e != api.OK {
		return nil, 0, e
	}
	if e := errorOfMarks(marks); e != api.OK {
		return nil, 0, e
	}
	parts := copyOf(l)
	for number, m := range marks {
		behind, e := copyBehind(parts, m)
		if e != api.OK {
			return nil, number, e
		}
		parts = behind
	}
	return parts, 0, api.OK
}

// copyOf returns a copy that shares no memory with the given one.
func copyOf(l []api.CopyPart) []api.CopyPart {
	parts := slices.Clone(l)
	for i := range parts {
		parts[i].Words = slices.Clone(parts[i].Words)
	}
	return parts
}

// action makes of a copy the one behind a mark whose part there is, or tells why not. It writes into
// the copy. Whether the copy behind the mark is a right one is not asked.
type action func(l []api.CopyPart, m api.ProofMark) ([]api.CopyPart, api.Errno)

// actions returns what the marks of each kind do.
func actions() map[int]action {
	return map[int]action{
		api.MarkOut:    replace,
		api.MarkIn:     replace,
		api.MarkChange: replace,
		api.MarkSwap:   swap,
		api.MarkBreak:  divide,
		api.MarkJoin:   join,
		api.MarkTurn:   turn,
	}
}

// copyBehind returns the copy behind a right mark. It writes into the given one.
func copyBehind(l []api.CopyPart, m api.ProofMark) ([]api.CopyPart, api.Errno) {
	if m.Part >= len(l) {
		return nil, api.ErrMissing
	}
	parts, e := actions()[m.Mark](l, m)
	if e != api.OK {
		return nil, e
	}
	if _, e := text.CheckParts(parts); e != api.OK {
		return nil, e
	}
	return parts, api.OK
}

// replace puts New in the place of Old; each of them may be no word at all.
func replace(l []api.CopyPart, m api.ProofMark) ([]api.CopyPart, api.Errno) {
	part := &l[m.Part]
	if endAhead(m) > len(part.Words) {
		return nil, api.ErrMissing
	}
	if m.Old != "" && part.Words[m.Word] != m.Old {
		return nil, api.ErrClash
	}
	var words []string
	if m.New != "" {
		words = []string{m.New}
	}
	part.Words = slices.Replace(part.Words, m.Word, endAhead(m), words...)
	return l, api.OK
}

func swap(l []api.CopyPart, m api.ProofMark) ([]api.CopyPart, api.Errno) {
	words := l[m.Part].Words
	if endAhead(m) > len(words) {
		return nil, api.ErrMissing
	}
	words[m.Word], words[m.Word+1] = words[m.Word+1], words[m.Word]
	return l, api.OK
}

func divide(l []api.CopyPart, m api.ProofMark) ([]api.CopyPart, api.Errno) {
	words := l[m.Part].Words
	if m.Word >= len(words) {
		return nil, api.ErrMissing
	}
	l[m.Part].Words = words[:m.Word]
	// It gets words of its own: those of the part ahead of it may become more in their old place.
	behind := api.CopyPart{Kind: m.Kind, Words: slices.Clone(words[m.Word:])}
	return slices.Insert(l, m.Part+1, behind), api.OK
}

func join(l []api.CopyPart, m api.ProofMark) ([]api.CopyPart, api.Errno) {
	next := m.Part + 1
	if next >= len(l) {
		return nil, api.ErrMissing
	}
	if len(l[m.Part].Words) != m.Word || l[next].Kind != m.Kind {
		return nil, api.ErrClash
	}
	l[m.Part].Words = append(l[m.Part].Words, l[next].Words...)
	return slices.Delete(l, next, next+1), api.OK
}

func turn(l []api.CopyPart, m api.ProofMark) ([]api.CopyPart, api.Errno) {
	if l[m.Part].Kind != m.Was {
		return nil, api.ErrClash
	}
	l[m.Part].Kind = m.Kind
	return l, api.OK
}

// Inverse: see the chapter.
func Inverse(m api.ProofMark) (api.ProofMark, api.Errno) {
	if e := CheckMark(m); e != api.OK {
		return api.ProofMark{}, e
	}
	return inverse(m), api.OK
}

func inverse(m api.ProofMark) api.ProofMark {
	back := map[int]int{
		api.MarkOut:    api.MarkIn,
		api.MarkIn:     api.MarkOut,
		api.MarkChange: api.MarkChange,
		api.MarkSwap:   api.MarkSwap,
		api.MarkBreak:  api.MarkJoin,
		api.MarkJoin:   api.MarkBreak,
		api.MarkTurn:   api.MarkTurn,
	}
	m.Mark = back[m.Mark]
	m.Old, m.New = m.New, m.Old
	if m.Mark == api.MarkTurn {
		m.Was, m.Kind = m.Kind, m.Was
	}
	return m
}

// InverseAll: see the chapter.
func InverseAll(marks []api.ProofMark) ([]api.ProofMark, api.Errno) {
	if e := errorOfMarks(marks); e != api.OK {
		return nil, e
	}
	var back []api.ProofMark
	for _, m := range slices.Backward(marks) {
		back = append(back, inverse(m))
	}
	return back, api.OK
}
