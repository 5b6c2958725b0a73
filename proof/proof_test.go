package proof_test

import (
	"fmt"
	"strings"
	"testing"

	"tympan/api"
	"tympan/proof"
)

// wrongMark is a mark with its error.
type wrongMark struct {
	m api.ProofMark
	e api.Errno
}

// wrongKinds is marks of no kind, or out of range, mostly with a later error, too.
func wrongKinds() []wrongMark {
	wrong := []wrongMark{
		{api.ProofMark{}, api.ErrKind},
		{api.ProofMark{Mark: 8, Part: -1}, api.ErrKind},
		{api.ProofMark{Mark: -1, Word: 101, Old: "a"}, api.ErrKind},
		{api.ProofMark{Mark: great}, api.ErrKind},
		{api.ProofMark{Mark: small}, api.ErrKind},
	}
	for kind := api.MarkOut; kind <= api.MarkTurn; kind++ {
		for _, at := range [][2]int{{-1, 1}, {60, 1}, {0, -1}, {0, 101}, {59, great}, {small, 100}, {great, small}} {
			wrong = append(wrong, wrongMark{api.ProofMark{Mark: kind, Part: at[0], Word: at[1]}, api.ErrRange})
		}
	}
	return wrong
}

// wrongTold is marks that tell something else than what is asked for.
func wrongTold() []wrongMark {
	var wrong []wrongMark
	add := func(m api.ProofMark) { wrong = append(wrong, wrongMark{m, api.ErrForm}) }
	for _, s := range []string{"", " ", "a b", "a\n", "\ta", "\x7f", "\x00", "\xc3\xa9", strings.Repeat("x", 31)} {
		add(api.ProofMark{Mark: api.MarkOut, Old: s})
		add(api.ProofMark{Mark: api.MarkIn, New: s})
		add(api.ProofMark{Mark: api.MarkChange, Old: s, New: "a"})
		add(api.ProofMark{Mark: api.MarkChange, Old: "a", New: s})
	}
	for _, s := range []string{"a", "?", "\n"} {
		add(api.ProofMark{Mark: api.MarkOut, Old: "b", New: s})
		add(api.ProofMark{Mark: api.MarkIn, Old: s, New: "b"})
		add(api.ProofMark{Mark: api.MarkSwap, Old: s})
		add(api.ProofMark{Mark: api.MarkSwap, New: s})
		add(api.ProofMark{Mark: api.MarkSwap, Old: s, New: s})
		add(api.ProofMark{Mark: api.MarkBreak, Word: 1, Kind: 1, Old: s})
		add(api.ProofMark{Mark: api.MarkJoin, Word: 1, Kind: 1, New: s})
		add(api.ProofMark{Mark: api.MarkTurn, Was: 1, Kind: 2, Old: s})
		add(api.ProofMark{Mark: api.MarkChange, Old: s, New: s})
	}
	for _, kind := range []int{1, 2, 3, 4, -1, great, small} {
		add(api.ProofMark{Mark: api.MarkOut, Old: "a", Kind: kind})
		add(api.ProofMark{Mark: api.MarkIn, New: "a", Was: kind})
		add(api.ProofMark{Mark: api.MarkChange, Old: "a", New: "b", Kind: kind})
		add(api.ProofMark{Mark: api.MarkSwap, Was: kind})
		add(api.ProofMark{Mark: api.MarkSwap, Was: kind, Kind: kind})
		add(api.ProofMark{Mark: api.MarkBreak, Word: 1, Was: kind, Kind: 1})
		add(api.ProofMark{Mark: api.MarkJoin, Word: 1, Was: kind, Kind: 2})
		add(api.ProofMark{Mark: api.MarkTurn, Was: kind, Kind: kind})
		add(api.ProofMark{Mark: api.MarkBreak, Kind: kind})
		add(api.ProofMark{Mark: api.MarkJoin, Kind: kind})
		add(api.ProofMark{Mark: api.MarkTurn, Word: 1, Was: kind, Kind: kind%3 + 1})
	}
	for _, kind := range []int{0, 4, -1, great, small} {
		add(api.ProofMark{Mark: api.MarkBreak, Word: 1, Kind: kind})
		add(api.ProofMark{Mark: api.MarkJoin, Word: 100, Kind: kind})
		add(api.ProofMark{Mark: api.MarkTurn, Was: 1, Kind: kind})
		add(api.ProofMark{Mark: api.MarkTurn, Was: kind, Kind: 1})
	}
	add(api.ProofMark{Mark: api.MarkTurn, Word: 100, Was: 1, Kind: 2})
	return wrong
}

func wrongMarks() []wrongMark {
	return append(wrongKinds(), wrongTold()...)
}

// rightMarks is marks of all kinds, at their limits, with their texts.
func rightMarks() map[string]api.ProofMark {
	long := strings.Repeat("~", 30)
	return map[string]api.ProofMark{
		"out 0 0 a":               {Mark: api.MarkOut, Old: "a"},
		"out 59 100 " + long:      {Mark: api.MarkOut, Part: 59, Word: 100, Old: long},
		"out 7 9 #":               {Mark: api.MarkOut, Part: 7, Word: 9, Old: "#"},
		"in 0 0 !":                {Mark: api.MarkIn, New: "!"},
		"in 59 100 ^":             {Mark: api.MarkIn, Part: 59, Word: 100, New: "^"},
		"change 0 1 quick slow":   {Mark: api.MarkChange, Word: 1, Old: "quick", New: "slow"},
		"change 3 0 a A":          {Mark: api.MarkChange, Part: 3, Old: "a", New: "A"},
		"change 0 0 a " + long:    {Mark: api.MarkChange, Old: "a", New: long},
		"swap 0 0":                {Mark: api.MarkSwap},
		"swap 59 100":             {Mark: api.MarkSwap, Part: 59, Word: 100},
		"break 0 1 1":             {Mark: api.MarkBreak, Word: 1, Kind: api.CopyBody},
		"break 59 100 3":          {Mark: api.MarkBreak, Part: 59, Word: 100, Kind: api.CopyNote},
		"join 0 1 2":              {Mark: api.MarkJoin, Word: 1, Kind: api.CopyHeading},
		"join 59 100 3":           {Mark: api.MarkJoin, Part: 59, Word: 100, Kind: api.CopyNote},
		"turn 0 1 2":              {Mark: api.MarkTurn, Was: api.CopyBody, Kind: api.CopyHeading},
		"turn 59 3 1":             {Mark: api.MarkTurn, Part: 59, Was: api.CopyNote, Kind: api.CopyBody},
		"in 10 10 in":             {Mark: api.MarkIn, Part: 10, Word: 10, New: "in"},
		"change 10 10 10 1000000": {Mark: api.MarkChange, Part: 10, Word: 10, Old: "10", New: "1000000"},
	}
}

// P8.1: what is a mark.
func TestRightMarks(t *testing.T) {
	for s, m := range rightMarks() {
		if e := proof.CheckMark(m); e != api.OK {
			t.Errorf("CheckMark of %q: error %d", s, e)
		}
	}
}

// P8.1, R1: what is wrong with a mark, in all functions that take one.
func TestWrongMarks(t *testing.T) {
	right := mark("in 0 1 a")
	for _, w := range wrongMarks() {
		what := fmt.Sprintf("%#v", w.m)
		if e := proof.CheckMark(w.m); e != w.e {
			t.Errorf("CheckMark of %s: error %d, want %d", what, e, w.e)
		}
		l, e := proof.Applied(fox(), w.m)
		want(t, "Applied of "+what, l, e, nil, w.e)
		m, e := proof.Inverse(w.m)
		want(t, "Inverse of "+what, m, e, api.ProofMark{}, w.e)
		pair, e := proof.Swapped(w.m, api.ProofMark{})
		want(t, "Swapped of "+what, pair, e, [2]api.ProofMark{}, w.e)
		pair, e = proof.Swapped(right, w.m)
		want(t, "Swapped behind of "+what, pair, e, [2]api.ProofMark{}, w.e)
	}
}

// wrongLists is lists of marks with their errors.
func wrongLists() map[api.Errno][]api.ProofMark {
	many := make([]api.ProofMark, 61)
	for i := range many {
		many[i] = mark("swap 0 0")
	}
	many[0] = api.ProofMark{}
	return map[api.Errno][]api.ProofMark{
		api.ErrLarge: many,
		api.ErrKind:  {mark("swap 59 0"), {Mark: 8}, {Mark: api.MarkSwap, Part: 60}},
		api.ErrRange: {{Mark: api.MarkSwap, Part: 60}, {}},
		api.ErrForm:  {mark("out 0 0 a"), mark("out 0 0 b"), {Mark: api.MarkOut}, {}},
	}
}

// P8.1, R1, R9: what is wrong with marks, in all functions that take several ones.
func TestWrongListsOfMarks(t *testing.T) {
	other := []api.ProofMark{{Mark: great}}
	for wanted, l := range wrongLists() {
		parts, n, e := proof.AppliedAll(fox(), l)
		want(t, "AppliedAll", parts, e, nil, wanted)
		want(t, "AppliedAll, the number", n, e, 0, wanted)
		marks, e := proof.InverseAll(l)
		want(t, "InverseAll", marks, e, nil, wanted)
		marks, n, e = proof.Stet(l, -1)
		want(t, "Stet", marks, e, nil, wanted)
		want(t, "Stet, the number", n, e, 0, wanted)
		s, e := proof.Print(l)
		want(t, "Print", s, e, "", wanted)
		for _, both := range [][2][]api.ProofMark{{l, nil}, {nil, l}, {l, l}, {l, other}} {
			marks, pair, e := proof.Merged(both[0], both[1])
			want(t, "Merged", marks, e, nil, wanted)
			want(t, "Merged, the numbers", pair, e, [2]int{}, wanted)
		}
	}
}
