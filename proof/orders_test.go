package proof_test

import (
	"slices"
	"strings"
	"testing"

	"tympan/api"
	"tympan/proof"
)

// order is two marks, and what they become in another order ("" if they hang together).
type order struct{ a, b, first, second string }

// ordersInPart is marks of words and turns of one part.
func ordersInPart() []order {
	return []order{
		{"in 0 1 very", "out 0 3 fox", "out 0 2 fox", "in 0 1 very"},
		// b ends where a begins, or ahead of it.
		{"out 0 2 a", "out 0 1 b", "out 0 1 b", "out 0 1 a"},
		{"out 0 2 a", "in 0 2 b", "in 0 2 b", "out 0 3 a"},
		{"out 0 2 a", "in 0 0 b", "in 0 0 b", "out 0 3 a"},
		{"out 0 2 a", "change 0 1 b c", "change 0 1 b c", "out 0 2 a"},
		{"out 0 2 a", "swap 0 0", "swap 0 0", "out 0 2 a"},
		{"in 0 2 a", "out 0 1 b", "out 0 1 b", "in 0 1 a"},
		{"in 0 2 a", "in 0 2 b", "in 0 2 b", "in 0 3 a"},
		{"in 0 2 a", "swap 0 0", "swap 0 0", "in 0 2 a"},
		{"change 0 2 a b", "out 0 1 c", "out 0 1 c", "change 0 1 a b"},
		{"change 0 2 a b", "in 0 2 c", "in 0 2 c", "change 0 3 a b"},
		{"change 0 2 a b", "change 0 1 c d", "change 0 1 c d", "change 0 2 a b"},
		{"swap 0 2", "out 0 0 a", "out 0 0 a", "swap 0 1"},
		{"swap 0 2", "in 0 1 a", "in 0 1 a", "swap 0 3"},
		{"swap 0 2", "swap 0 0", "swap 0 0", "swap 0 2"},
		{"swap 0 3", "change 0 0 a b", "change 0 0 a b", "swap 0 3"},
		// b begins where a ends, or behind it.
		{"out 0 2 a", "out 0 2 b", "out 0 3 b", "out 0 2 a"},
		{"out 0 2 a", "swap 0 2", "swap 0 3", "out 0 2 a"},
		{"out 0 2 a", "change 0 5 b c", "change 0 6 b c", "out 0 2 a"},
		{"out 0 2 a", "in 0 3 b", "in 0 4 b", "out 0 2 a"},
		{"in 0 2 a", "out 0 3 b", "out 0 2 b", "in 0 2 a"},
		{"in 0 2 a", "in 0 3 b", "in 0 2 b", "in 0 2 a"},
		{"in 0 2 a", "change 0 4 b c", "change 0 3 b c", "in 0 2 a"},
		{"in 0 2 a", "swap 0 3", "swap 0 2", "in 0 2 a"},
		{"change 0 2 a b", "out 0 3 c", "out 0 3 c", "change 0 2 a b"},
		{"change 0 2 a b", "in 0 3 c", "in 0 3 c", "change 0 2 a b"},
		{"change 0 2 a b", "swap 0 3", "swap 0 3", "change 0 2 a b"},
		{"swap 0 2", "out 0 4 a", "out 0 4 a", "swap 0 2"},
		{"swap 0 2", "in 0 4 a", "in 0 4 a", "swap 0 2"},
		{"swap 0 2", "swap 0 4", "swap 0 4", "swap 0 2"},
		// They hang together.
		{"in 0 1 very", "change 0 1 very so", "", ""},
		{"in 0 1 a", "out 0 1 a", "", ""},
		{"in 0 1 a", "swap 0 1", "", ""},
		{"in 0 1 a", "swap 0 0", "", ""},
		{"out 0 1 a", "swap 0 0", "", ""},
		{"change 0 1 a b", "change 0 1 b c", "", ""},
		{"change 0 1 a b", "out 0 1 b", "", ""},
		{"change 0 1 a b", "swap 0 1", "", ""},
		{"change 0 1 a b", "swap 0 0", "", ""},
		{"swap 0 1", "swap 0 0", "", ""},
		{"swap 0 1", "swap 0 1", "", ""},
		{"swap 0 1", "swap 0 2", "", ""},
		{"swap 0 1", "in 0 2 a", "", ""},
		{"swap 0 1", "out 0 1 a", "", ""},
		{"swap 0 1", "change 0 2 a b", "", ""},
		// Turns.
		{"turn 0 1 2", "turn 0 2 3", "", ""},
		{"turn 0 1 2", "turn 0 2 1", "", ""},
		{"turn 0 1 2", "out 0 3 a", "out 0 3 a", "turn 0 1 2"},
		{"turn 0 1 2", "in 0 0 a", "in 0 0 a", "turn 0 1 2"},
		{"swap 0 1", "turn 0 1 2", "turn 0 1 2", "swap 0 1"},
		{"in 0 0 a", "turn 0 1 2", "turn 0 1 2", "in 0 0 a"},
		// Different parts.
		{"in 0 1 a", "out 1 0 b", "out 1 0 b", "in 0 1 a"},
		{"swap 1 1", "swap 0 1", "swap 0 1", "swap 1 1"},
		{"change 1 1 a b", "change 0 1 b c", "change 0 1 b c", "change 1 1 a b"},
		{"turn 0 1 2", "turn 1 2 1", "turn 1 2 1", "turn 0 1 2"},
		{"turn 1 1 2", "in 0 0 a", "in 0 0 a", "turn 1 1 2"},
		{"out 5 0 a", "turn 0 1 3", "turn 0 1 3", "out 5 0 a"},
	}
}

// ordersBehindDivisions is marks behind breaks and joins.
func ordersBehindDivisions() []order {
	return []order{
		// A break, and marks before its part.
		{"break 2 3 1", "in 1 2 a", "in 1 2 a", "break 2 3 1"},
		{"break 2 3 1", "out 0 2 a", "out 0 2 a", "break 2 3 1"},
		{"break 2 3 1", "turn 1 1 2", "turn 1 1 2", "break 2 3 1"},
		{"break 2 3 1", "break 1 1 3", "break 1 1 3", "break 3 3 1"},
		{"break 2 3 1", "break 0 5 3", "break 0 5 3", "break 3 3 1"},
		{"break 2 3 1", "join 0 5 3", "join 0 5 3", "break 1 3 1"},
		{"break 2 3 1", "join 1 5 3", "", ""},
		// Behind its parts.
		{"break 2 3 1", "in 4 2 a", "in 3 2 a", "break 2 3 1"},
		{"break 2 3 1", "turn 5 1 2", "turn 4 1 2", "break 2 3 1"},
		{"break 2 3 1", "break 4 1 2", "break 3 1 2", "break 2 3 1"},
		{"break 2 3 1", "join 4 1 2", "join 3 1 2", "break 2 3 1"},
		// At its parts.
		{"break 2 3 1", "break 2 1 1", "", ""},
		{"break 2 3 1", "break 3 1 1", "", ""},
		{"break 2 3 1", "join 2 3 1", "", ""},
		{"break 2 3 1", "join 3 3 1", "", ""},
		{"break 2 3 1", "turn 3 1 2", "", ""},
		{"break 2 3 1", "turn 2 1 2", "turn 2 1 2", "break 2 3 1"},
		{"break 2 3 1", "out 2 2 a", "out 2 2 a", "break 2 2 1"},
		{"break 2 3 1", "in 2 3 a", "in 2 3 a", "break 2 4 1"},
		{"break 2 3 1", "in 2 0 a", "in 2 0 a", "break 2 4 1"},
		{"break 2 3 1", "change 2 0 a b", "change 2 0 a b", "break 2 3 1"},
		{"break 2 3 1", "swap 2 1", "swap 2 1", "break 2 3 1"},
		{"break 2 3 1", "out 3 0 a", "out 2 3 a", "break 2 3 1"},
		{"break 2 3 1", "in 3 4 a", "in 2 7 a", "break 2 3 1"},
		{"break 2 3 1", "swap 3 1", "swap 2 4", "break 2 3 1"},
		{"break 2 3 1", "change 3 1 a b", "change 2 4 a b", "break 2 3 1"},
		{"break 0 1 1", "in 1 0 very", "in 0 1 very", "break 0 1 1"},
		// A join, and marks before its part.
		{"join 2 3 1", "in 1 2 a", "in 1 2 a", "join 2 3 1"},
		{"join 2 3 1", "turn 0 1 2", "turn 0 1 2", "join 2 3 1"},
		{"join 2 3 1", "break 1 1 3", "break 1 1 3", "join 3 3 1"},
		{"join 2 3 1", "join 0 5 3", "join 0 5 3", "join 1 3 1"},
		{"join 2 3 1", "join 1 5 3", "", ""},
		// Behind its part.
		{"join 2 3 1", "in 3 2 a", "in 4 2 a", "join 2 3 1"},
		{"join 2 3 1", "turn 3 1 2", "turn 4 1 2", "join 2 3 1"},
		{"join 2 3 1", "break 3 1 2", "break 4 1 2", "join 2 3 1"},
		{"join 2 3 1", "join 5 1 2", "join 6 1 2", "join 2 3 1"},
		// At its part.
		{"join 2 3 1", "break 2 3 1", "", ""},
		{"join 2 3 1", "break 2 7 1", "", ""},
		{"join 2 3 1", "join 2 9 1", "", ""},
		{"join 2 3 1", "turn 2 1 2", "turn 2 1 2", "join 2 3 1"},
		{"join 2 3 1", "out 2 2 a", "out 2 2 a", "join 2 2 1"},
		{"join 2 3 1", "in 2 3 a", "in 2 3 a", "join 2 4 1"},
		{"join 2 3 1", "in 2 1 a", "in 2 1 a", "join 2 4 1"},
		{"join 2 3 1", "change 2 2 a b", "change 2 2 a b", "join 2 3 1"},
		{"join 2 3 1", "swap 2 1", "swap 2 1", "join 2 3 1"},
		{"join 2 3 1", "out 2 3 a", "out 3 0 a", "join 2 3 1"},
		{"join 2 3 1", "in 2 4 a", "in 3 1 a", "join 2 3 1"},
		{"join 2 3 1", "change 2 3 a b", "change 3 0 a b", "join 2 3 1"},
		{"join 2 3 1", "swap 2 3", "swap 3 0", "join 2 3 1"},
		{"join 2 3 1", "swap 2 2", "", ""},
	}
}

// ordersAheadOfDivisions is marks of words and turns ahead of breaks and joins.
func ordersAheadOfDivisions() []order {
	return []order{
		// Before the part.
		{"in 1 2 a", "break 2 3 1", "break 2 3 1", "in 1 2 a"},
		{"turn 0 1 2", "break 2 3 1", "break 2 3 1", "turn 0 1 2"},
		{"in 1 2 a", "join 2 3 1", "join 2 3 1", "in 1 2 a"},
		{"turn 1 1 2", "join 2 3 1", "join 2 3 1", "turn 1 1 2"},
		// Behind the part, or the parts.
		{"in 3 2 a", "break 2 3 1", "break 2 3 1", "in 4 2 a"},
		{"turn 5 1 2", "break 2 3 1", "break 2 3 1", "turn 6 1 2"},
		{"in 4 2 a", "join 2 3 1", "join 2 3 1", "in 3 2 a"},
		{"turn 4 1 2", "join 2 3 1", "join 2 3 1", "turn 3 1 2"},
		// Turns.
		{"turn 2 1 2", "break 2 3 1", "break 2 3 1", "turn 2 1 2"},
		{"turn 2 1 2", "join 2 3 1", "join 2 3 1", "turn 2 1 2"},
		{"turn 3 1 2", "join 2 3 2", "", ""},
		// Words of the second part of a join.
		{"in 3 0 a", "join 2 3 1", "join 2 3 1", "in 2 3 a"},
		{"swap 3 4", "join 2 3 1", "join 2 3 1", "swap 2 7"},
		{"out 3 1 a", "join 2 3 1", "join 2 3 1", "out 2 4 a"},
		// Words of the first one.
		{"in 2 3 a", "join 2 3 1", "join 2 2 1", "in 2 3 a"},
		{"out 2 0 a", "join 2 3 1", "join 2 4 1", "out 2 0 a"},
		{"change 2 0 a b", "join 2 3 1", "join 2 3 1", "change 2 0 a b"},
		{"swap 2 5", "join 2 3 1", "join 2 3 1", "swap 2 5"},
		// Words behind a break.
		{"in 2 3 a", "break 2 3 1", "break 2 3 1", "in 3 0 a"},
		{"out 2 3 a", "break 2 3 1", "break 2 3 1", "out 3 0 a"},
		{"swap 2 5", "break 2 3 1", "break 2 3 1", "swap 3 2"},
		{"change 2 4 a b", "break 2 3 1", "break 2 3 1", "change 3 1 a b"},
		// Words ahead of it.
		{"in 2 2 a", "break 2 3 1", "break 2 2 1", "in 2 2 a"},
		{"out 2 2 a", "break 2 3 1", "break 2 4 1", "out 2 2 a"},
		{"change 2 2 a b", "break 2 3 1", "break 2 3 1", "change 2 2 a b"},
		{"swap 2 1", "break 2 3 1", "break 2 3 1", "swap 2 1"},
		{"swap 2 0", "break 2 3 1", "break 2 3 1", "swap 2 0"},
		// On both sides of it.
		{"swap 2 2", "break 2 3 1", "", ""},
	}
}

// P8.4: marks in another order, by each rule.
func TestSwapped(t *testing.T) {
	for _, c := range slices.Concat(ordersInPart(), ordersBehindDivisions(), ordersAheadOfDivisions()) {
		pair, e := proof.Swapped(mark(c.a), mark(c.b))
		if c.first == "" {
			want(t, c.a+", "+c.b, pair, e, [2]api.ProofMark{}, api.ErrClash)
		} else {
			want(t, c.a+", "+c.b, pair[:], e, marks(c.first, c.second), api.OK)
		}
	}
}

// P8.4: marks that have no place in another order.
func TestSwappedOutOfRange(t *testing.T) {
	for _, c := range []struct {
		a, b string
		e    api.Errno
	}{
		{"in 0 100 a", "in 0 0 b", api.ErrRange},
		{"swap 0 100", "in 0 100 b", api.ErrRange},
		{"out 0 0 a", "out 0 100 b", api.ErrRange},
		{"out 0 100 a", "in 0 100 b", api.ErrRange},
		{"break 0 100 1", "in 0 3 a", api.ErrRange},
		{"break 0 60 1", "in 1 41 a", api.ErrRange},
		{"break 59 1 1", "break 3 1 1", api.ErrRange},
		{"join 0 100 1", "in 0 100 a", api.ErrRange},
		{"join 59 1 1", "break 58 1 1", api.ErrRange},
		{"join 3 2 1", "turn 59 1 2", api.ErrRange},
		{"join 59 1 1", "out 59 1 a", api.ErrRange},
		{"in 59 0 a", "break 0 1 1", api.ErrRange},
		{"turn 59 1 2", "break 58 1 1", api.ErrRange},
		{"in 59 3 a", "break 59 2 1", api.ErrRange},
		{"out 0 0 a", "join 0 100 1", api.ErrRange},
		{"out 0 0 a", "break 0 100 1", api.ErrRange},
		{"in 1 50 a", "join 0 51 1", api.ErrRange},
		{"in 0 0 a", "break 0 1 1", api.ErrForm},
		{"in 59 0 a", "break 59 1 1", api.ErrForm},
		{"in 0 0 a", "join 0 1 1", api.ErrForm},
		{"in 0 100 a", "join 0 1 1", api.ErrForm},
		{"break 0 1 1", "out 0 0 a", api.ErrForm},
		{"break 0 1 1", "out 0 100 a", api.ErrForm},
		{"join 0 1 1", "out 0 0 a", api.ErrForm},
	} {
		pair, e := proof.Swapped(mark(c.a), mark(c.b))
		want(t, c.a+", "+c.b, pair, e, [2]api.ProofMark{}, c.e)
	}
	for _, c := range []order{
		{"in 0 99 a", "in 0 0 b", "in 0 0 b", "in 0 100 a"},
		{"out 0 0 a", "out 0 99 b", "out 0 100 b", "out 0 0 a"},
		{"break 58 100 1", "break 3 1 1", "break 3 1 1", "break 59 100 1"},
		{"break 0 60 1", "in 1 40 a", "in 0 100 a", "break 0 60 1"},
		{"in 0 100 a", "break 0 100 1", "break 0 100 1", "in 1 0 a"},
		{"in 0 0 a", "break 0 2 1", "break 0 1 1", "in 0 0 a"},
		{"break 0 2 1", "out 0 0 a", "out 0 0 a", "break 0 1 1"},
	} {
		pair, e := proof.Swapped(mark(c.a), mark(c.b))
		want(t, c.a+", "+c.b, pair[:], e, marks(c.first, c.second), api.OK)
	}
}

// P8.4: proofs without one of their marks.
func TestStet(t *testing.T) {
	for _, c := range []struct {
		marks  []string
		number int
		rest   []string
		with   int
		e      api.Errno
	}{
		{[]string{"in 0 1 very", "out 0 3 fox"}, 0, []string{"out 0 2 fox"}, 0, api.OK},
		{[]string{"in 0 1 very", "out 0 3 fox"}, 1, []string{"in 0 1 very"}, 0, api.OK},
		{[]string{"swap 0 0"}, 0, nil, 0, api.OK},
		{[]string{"in 0 2 a", "in 0 1 b", "out 0 4 c"}, 0, []string{"in 0 1 b", "out 0 3 c"}, 0, api.OK},
		{[]string{"swap 3 0", "in 0 2 a", "in 0 1 b", "change 0 3 c d"}, 1, []string{"swap 3 0", "in 0 1 b"}, 3, api.ErrClash},
		{[]string{"break 0 1 1", "in 1 0 a", "out 2 0 b"}, 0, []string{"in 0 1 a", "out 1 0 b"}, 0, api.OK},
		{[]string{"in 0 1 very", "change 0 1 very so"}, 0, nil, 1, api.ErrClash},
		{[]string{"in 0 1 very", "swap 5 5", "change 0 1 very so"}, 0, nil, 2, api.ErrClash},
		{[]string{"swap 5 5", "break 0 1 1", "out 0 0 a", "break 1 1 1"}, 1, nil, 2, api.ErrForm},
		{[]string{"in 0 99 a", "in 0 0 b", "in 0 0 c"}, 0, nil, 2, api.ErrRange},
		{[]string{"out 0 0 a", "swap 0 99", "swap 0 100"}, 0, nil, 2, api.ErrRange},
		{[]string{"swap 0 0"}, 1, nil, 0, api.ErrMissing},
		{[]string{"swap 0 0"}, -1, nil, 0, api.ErrMissing},
		{[]string{"swap 0 0"}, great, nil, 0, api.ErrMissing},
		{[]string{"swap 0 0"}, small, nil, 0, api.ErrMissing},
		{nil, 0, nil, 0, api.ErrMissing},
	} {
		what := "Stet of " + strings.Join(c.marks, ", ")
		l, n, e := proof.Stet(marks(c.marks...), c.number)
		if c.e != api.OK {
			c.rest = nil
		}
		want(t, what, l, e, marks(c.rest...), c.e)
		want(t, what+", the number", n, e, c.with, c.e)
	}
	ins := slices.Repeat(marks("in 0 0 a"), 60)
	l, _, e := proof.Stet(ins, 0)
	want(t, "Stet of the first one of 60 ins", l, e, ins[1:], api.OK)
}

// stetByDefinition is Stet of right marks, by the words of its promise.
func stetByDefinition(marks []api.ProofMark, number int) ([]api.ProofMark, int, api.Errno) {
	l := slices.Clone(marks)
	for i := number; i+1 < len(l); i++ {
		pair, e := proof.Swapped(l[i], l[i+1])
		if e != api.OK {
			return nil, i + 1, e
		}
		l[i], l[i+1] = pair[0], pair[1]
	}
	return l[:len(l)-1], 0, api.OK
}

// P8.4: proofs without one of their marks, by the definition.
func TestStetByDefinition(t *testing.T) {
	m := newMaker(7)
	for range 3000 {
		marks := m.proofOf(m.copy(4, 26), 1+m.Intn(6), 26)
		number := m.Intn(len(marks))
		wanted, wantedNumber, wantedError := stetByDefinition(marks, number)
		l, n, e := proof.Stet(marks, number)
		want(t, "Stet", l, e, wanted, wantedError)
		want(t, "Stet, the number", n, e, wantedNumber, wantedError)
	}
}

// P8.4: marks of two proofs that hang together, or not.
func TestHangTogether(t *testing.T) {
	for _, c := range []struct {
		x, y string
		// What y is carried over x, and "" if they hang together.
		overX string
		// What x is carried over y.
		overY string
	}{
		{"in 0 1 a", "in 0 1 b", "", ""},
		{"in 0 1 a", "in 0 1 a", "", ""},
		{"in 0 1 a", "break 0 1 1", "", ""},
		{"in 0 1 a", "in 0 2 b", "in 0 3 b", "in 0 1 a"},
		{"in 0 1 a", "in 1 1 b", "in 1 1 b", "in 0 1 a"},
		{"in 0 1 a", "break 0 2 1", "break 0 3 1", "in 0 1 a"},
		{"in 0 2 a", "break 0 1 1", "break 0 1 1", "in 1 1 a"},
		{"in 0 1 a", "join 0 1 1", "join 0 2 1", "in 0 1 a"},
		{"in 1 0 a", "join 0 1 1", "join 0 1 1", "in 0 1 a"},
		{"in 1 1 a", "break 0 1 1", "break 0 1 1", "in 2 1 a"},
		{"out 0 1 a", "in 0 1 b", "in 0 1 b", "out 0 2 a"},
		{"out 0 1 a", "in 0 2 b", "in 0 1 b", "out 0 1 a"},
		{"out 0 1 a", "out 0 1 a", "", ""},
		{"out 0 1 a", "out 0 2 b", "out 0 1 b", "out 0 1 a"},
		{"out 0 1 a", "change 0 1 a b", "", ""},
		{"out 0 1 a", "break 0 1 1", "break 0 1 1", "out 1 0 a"},
		{"change 0 1 a b", "change 0 1 a c", "", ""},
		{"change 0 1 a b", "change 0 1 a b", "", ""},
		{"change 0 1 a b", "change 0 0 a b", "change 0 0 a b", "change 0 1 a b"},
		{"change 0 1 a b", "swap 0 0", "", ""},
		{"swap 0 0", "swap 0 1", "", ""},
		{"swap 0 0", "swap 0 0", "", ""},
		{"swap 0 0", "in 0 1 a", "", ""},
		{"swap 0 0", "in 0 0 a", "in 0 0 a", "swap 0 1"},
		{"swap 0 0", "in 0 2 a", "in 0 2 a", "swap 0 0"},
		{"swap 0 0", "break 0 1 1", "", ""},
		{"swap 0 0", "break 0 2 1", "break 0 2 1", "swap 0 0"},
		{"swap 0 2", "break 0 2 1", "break 0 2 1", "swap 1 0"},
		{"swap 0 0", "turn 0 1 2", "turn 0 1 2", "swap 0 0"},
		{"turn 0 1 2", "turn 0 1 3", "", ""},
		{"turn 0 1 2", "turn 1 1 3", "turn 1 1 3", "turn 0 1 2"},
		{"turn 1 1 2", "join 0 1 1", "", ""},
		{"turn 0 1 2", "join 0 1 1", "join 0 1 1", "turn 0 1 2"},
		{"turn 0 1 2", "break 0 1 1", "break 0 1 1", "turn 0 1 2"},
		{"turn 1 1 2", "break 0 1 1", "break 0 1 1", "turn 2 1 2"},
		{"break 0 1 1", "break 0 1 1", "", ""},
		{"break 0 1 1", "break 0 2 1", "", ""},
		{"break 0 1 1", "break 1 2 1", "break 2 2 1", "break 0 1 1"},
		{"break 0 1 1", "join 0 2 1", "", ""},
		{"break 1 1 1", "join 0 2 1", "", ""},
		{"break 2 1 1", "join 0 2 1", "join 0 2 1", "break 1 1 1"},
		{"join 0 1 1", "join 0 1 1", "", ""},
		{"join 0 1 1", "join 1 1 1", "", ""},
		{"join 0 1 1", "join 2 1 1", "join 1 1 1", "join 0 1 1"},
	} {
		checkMerged(t, c.x, c.y, c.overX)
		checkMerged(t, c.y, c.x, c.overY)
	}
}

// checkMerged checks the proof of one mark, merged with that of another one that is carried over it.
func checkMerged(t *testing.T, x, y, overX string) {
	t.Helper()
	l, pair, e := proof.Merged(marks(x), marks(y))
	if overX == "" {
		want(t, "Merged of "+x+" and "+y, l, e, nil, api.ErrClash)
	} else {
		want(t, "Merged of "+x+" and "+y, l, e, marks(x, overX), api.OK)
	}
	want(t, "Merged of "+x+" and "+y+", the numbers", pair, e, [2]int{}, e)
}

// P8.4: proofs that are merged.
func TestMerged(t *testing.T) {
	for _, c := range []struct {
		a, b, merged []string
		pair         [2]int
		e            api.Errno
	}{
		{nil, nil, nil, [2]int{}, api.OK},
		{[]string{"in 0 1 very"}, []string{"out 0 2 fox"}, []string{"in 0 1 very", "out 0 3 fox"}, [2]int{}, api.OK},
		{[]string{"in 0 1 a"}, []string{"in 0 1 b"}, nil, [2]int{}, api.ErrClash},
		{nil, []string{"in 0 1 a", "out 0 1 a"}, []string{"in 0 1 a", "out 0 1 a"}, [2]int{}, api.OK},
		{[]string{"in 0 1 a", "out 0 1 a"}, nil, []string{"in 0 1 a", "out 0 1 a"}, [2]int{}, api.OK},
		{[]string{"in 0 0 a", "in 0 0 b"}, []string{"out 0 1 c", "out 0 1 d"}, []string{"in 0 0 a", "in 0 0 b", "out 0 3 c", "out 0 3 d"}, [2]int{}, api.OK},
		{[]string{"out 0 0 a", "in 0 3 b"}, []string{"break 0 2 1", "in 1 0 c"}, []string{"out 0 0 a", "in 0 3 b", "break 0 1 1", "in 1 0 c"}, [2]int{}, api.OK},
		{[]string{"swap 1 0", "in 0 2 b"}, []string{"in 0 0 c", "turn 1 1 2", "change 0 3 d e", "in 0 3 f"}, nil, [2]int{1, 3}, api.ErrClash},
		{[]string{"swap 1 0", "out 0 2 b", "swap 0 2"}, []string{"in 0 5 c", "change 0 3 d e", "turn 1 1 2"}, nil, [2]int{2, 1}, api.ErrClash},
		{[]string{"swap 1 0", "in 0 0 a"}, []string{"swap 0 0", "in 0 100 b"}, nil, [2]int{1, 1}, api.ErrRange},
		{[]string{"in 0 100 a"}, []string{"in 0 0 b"}, nil, [2]int{0, 0}, api.ErrRange},
		{[]string{"swap 1 0", "out 0 0 a"}, []string{"break 0 1 1"}, nil, [2]int{1, 0}, api.ErrForm},
		{[]string{"break 59 2 1"}, []string{"turn 3 1 2", "break 3 1 1"}, nil, [2]int{0, 1}, api.ErrRange},
	} {
		what := "Merged of " + strings.Join(c.a, ", ") + " and " + strings.Join(c.b, ", ")
		l, pair, e := proof.Merged(marks(c.a...), marks(c.b...))
		want(t, what, l, e, marks(c.merged...), c.e)
		want(t, what+", the numbers", pair, e, c.pair, c.e)
	}
}

// P8.4: proofs that have too many marks together.
func TestMergedLarge(t *testing.T) {
	outs := func(part, count int) []api.ProofMark {
		return slices.Repeat([]api.ProofMark{{Mark: api.MarkSwap, Part: part}}, count)
	}
	for _, c := range []struct {
		a, b int
		e    api.Errno
	}{{60, 0, api.OK}, {0, 60, api.OK}, {30, 30, api.OK}, {59, 1, api.OK}, {60, 1, api.ErrLarge}, {1, 60, api.ErrLarge}, {31, 30, api.ErrLarge}, {60, 60, api.ErrLarge}} {
		l, pair, e := proof.Merged(outs(0, c.a), outs(1, c.b))
		wanted := append(outs(0, c.a), outs(1, c.b)...)
		if c.e != api.OK {
			wanted = nil
		}
		want(t, "Merged", l, e, wanted, c.e)
		want(t, "Merged, the numbers", pair, e, [2]int{}, c.e)
	}
	_, pair, e := proof.Merged(outs(0, 31), outs(0, 30))
	want(t, "Merged of many that hang together", pair, e, [2]int{}, api.ErrLarge)
}

// mergedByDefinition is Merged of right marks, by the words of its promise.
func mergedByDefinition(a, b []api.ProofMark) ([]api.ProofMark, [2]int, api.Errno) {
	inverse := func(m api.ProofMark) api.ProofMark { m, _ = proof.Inverse(m); return m }
	x := slices.Clone(a)
	merged := slices.Clone(a)
	for k := range b {
		y := b[k]
		for i := range x {
			samePlace := x[i].Part == y.Part && x[i].Word == y.Word
			kinds := []int{min(x[i].Mark, y.Mark), max(x[i].Mark, y.Mark)}
			overX, first := proof.Swapped(inverse(x[i]), y)
			overY, second := proof.Swapped(inverse(y), x[i])
			open := samePlace && (slices.Equal(kinds, []int{api.MarkIn, api.MarkIn}) || slices.Equal(kinds, []int{api.MarkIn, api.MarkBreak}))
			switch {
			case open || first == api.ErrClash || second == api.ErrClash:
				return nil, [2]int{i, k}, api.ErrClash
			case first != api.OK:
				return nil, [2]int{i, k}, first
			case second != api.OK:
				return nil, [2]int{i, k}, second
			}
			x[i], y = overY[0], overX[0]
		}
		merged = append(merged, y)
	}
	return merged, [2]int{}, api.OK
}

// P8.4: proofs that are merged, by the definition; some of their marks are at the limits.
func TestMergedByDefinition(t *testing.T) {
	m := newMaker(8)
	errors := map[api.Errno]int{}
	for range 5000 {
		l := m.copy(4, 26)
		a, b := m.proofOf(l, m.Intn(4), 26), m.proofOf(l, m.Intn(4), 26)
		if m.Intn(2) == 0 {
			a, b = append(a, m.farMark()), append(b, m.farMark())
		}
		wanted, wantedPair, wantedError := mergedByDefinition(a, b)
		merged, pair, e := proof.Merged(a, b)
		want(t, "Merged", merged, e, wanted, wantedError)
		want(t, "Merged, the numbers", pair, e, wantedPair, wantedError)
		errors[e]++
	}
	for _, e := range []api.Errno{api.OK, api.ErrClash, api.ErrRange, api.ErrForm} {
		if errors[e] == 0 {
			t.Errorf("no proofs with the error %d", e)
		}
	}
}

// farMark makes a mark near the limits.
func (m maker) farMark() api.ProofMark {
	part, word := 59*m.Intn(2), 1+99*m.Intn(2)
	return []api.ProofMark{
		{Mark: api.MarkOut, Part: part, Word: word, Old: "a"},
		{Mark: api.MarkIn, Part: part, Word: word, New: "a"},
		{Mark: api.MarkIn, Part: part, New: "a"},
		{Mark: api.MarkSwap, Part: part, Word: word},
		{Mark: api.MarkBreak, Part: part, Word: word, Kind: 1},
		{Mark: api.MarkJoin, Part: part, Word: word, Kind: 1},
		{Mark: api.MarkTurn, Part: part, Was: 1, Kind: 2},
	}[m.Intn(7)]
}
