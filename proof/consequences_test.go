package proof_test

import (
	"testing"

	"tympan/api"
	"tympan/proof"
)

// P8.7: inverses bring a copy back.
func TestInversesTakeBack(t *testing.T) {
	m := newMaker(1)
	for range 2000 {
		l := m.copy(4, 4)
		x, behind := m.applied(l, 4)
		y, e := proof.Inverse(x)
		back, again := proof.Applied(behind, y)
		if e != api.OK || again != api.OK || !alike(back, l) {
			t.Fatalf("%q, %v: the inverse %v, %d, brings %q, %d", lineOf(l), x, y, e, lineOf(back), again)
		}
		z, e := proof.Inverse(y)
		want(t, "the inverse of the inverse", z, e, x, api.OK)
	}
}

func TestInversesOfSeveralMarksTakeBack(t *testing.T) {
	m := newMaker(2)
	for range 500 {
		l := m.copy(4, 4)
		marks := m.proofOf(l, m.Intn(12), 4)
		behind, n, e := proof.AppliedAll(l, marks)
		want(t, "AppliedAll", n, e, 0, api.OK)
		inverses, e := proof.InverseAll(marks)
		want(t, "InverseAll", len(inverses), e, len(marks), api.OK)
		back, n, e := proof.AppliedAll(behind, inverses)
		want(t, "AppliedAll of inverses", n, e, 0, api.OK)
		want(t, "the copy", back, e, l, api.OK)
	}
}

// P8.8: two marks in another order come to the same copy, where both can be applied.
func TestOrdersComeToTheSame(t *testing.T) {
	m := newMaker(3)
	kinds := map[[2]int]int{}
	for range 20000 {
		l := m.copy(4, 26)
		a, middle := m.applied(l, 26)
		b, behind := m.applied(middle, 26)
		pair, e := proof.Swapped(a, b)
		if e != api.OK {
			continue
		}
		other, _, e := proof.AppliedAll(l, pair[:])
		if e != api.OK {
			continue
		}
		kinds[[2]int{a.Mark, b.Mark}]++
		if !alike(other, behind) {
			t.Fatalf("%q: %v comes to %q, %v to %q", lineOf(l), texts([]api.ProofMark{a, b}), lineOf(behind), texts(pair[:]), lineOf(other))
		}
	}
	if len(kinds) != 7*7 {
		t.Errorf("only %d pairs of kinds of marks have changed order", len(kinds))
	}
}

// P8.8: of two proofs that are merged either one may be first, where all can be applied.
func TestMergedComesToTheSame(t *testing.T) {
	m := newMaker(4)
	same := 0
	for range 20000 {
		l := m.copy(4, 26)
		a, b := m.proofOf(l, m.Intn(4), 26), m.proofOf(l, m.Intn(4), 26)
		ab, _, e := proof.Merged(a, b)
		ba, _, other := proof.Merged(b, a)
		if (e == api.OK) != (other == api.OK) {
			t.Errorf("%q: %v and %v: error %d, the other way round %d", lineOf(l), texts(a), texts(b), e, other)
		}
		if e != api.OK || other != api.OK {
			continue
		}
		x, _, e := proof.AppliedAll(l, ab)
		y, _, other := proof.AppliedAll(l, ba)
		if e != api.OK || other != api.OK {
			continue
		}
		same++
		if !alike(x, y) {
			t.Fatalf("%q: %v comes to %q, %v to %q", lineOf(l), texts(ab), lineOf(x), texts(ba), lineOf(y))
		}
	}
	if same < 10000 {
		t.Errorf("only %d proofs were merged", same)
	}
}
