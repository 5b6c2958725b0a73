package shop_test

import (
	"slices"
	"testing"

	"tympan/api"
	"tympan/shop"
)

func newDesk(t *testing.T, s api.ShopSetup) *shop.Desk {
	t.Helper()
	d, e := shop.New(s)
	if e != api.OK || d == nil {
		t.Fatalf("New: %v, error %d", d, e)
	}
	return d
}

// enterAll enters entries, all of which must be accepted.
func enterAll(t *testing.T, d *shop.Desk, entries ...string) {
	t.Helper()
	for _, entry := range entries {
		before := len(d.Log())
		number, e := d.Enter(entry)
		want(t, "Enter "+entry, number, e, before+1, api.OK)
	}
}

// P10.8: entries are numbered from 1 on.
func TestDesk(t *testing.T) {
	d := newDesk(t, plain())
	want(t, "the log of a new desk", d.Log(), api.OK, nil, api.OK)
	enterAll(t, d, askedLog()...)
	want(t, "the log", d.Log(), api.OK, askedLog(), api.OK)
}

// P10.8: errors are those of Accept, and change nothing.
func TestErrorsOfDesk(t *testing.T) {
	d := newDesk(t, plain())
	enterAll(t, d, readingLog()...)
	for _, x := range []refusal{{"", api.ErrSyntax}, {"set s a a x", api.ErrMissing}, {"correct p in 0 1 fi", api.ErrNone}, {"lock g p q", api.ErrBusy}, {"mend ", api.ErrKind}, {"cast a 99999", api.ErrStock}} {
		number, e := d.Enter(x.entry)
		want(t, "Enter "+x.entry, number, e, 0, x.e)
		want(t, "the log behind "+x.entry, d.Log(), api.OK, readingLog(), api.OK)
	}
	enterAll(t, d, repeated("cast a 1", 60-len(readingLog()))...)
	for _, entry := range []string{"cast a 1", "", "mend "} {
		number, e := d.Enter(entry)
		want(t, "Enter behind 60 entries", number, e, 0, api.ErrFull)
	}
	want(t, "the entries", len(d.Log()), api.OK, 60, api.OK)
}

// R5: nil desks.
func TestNilDesk(t *testing.T) {
	var d *shop.Desk
	for _, entry := range []string{"", "cast a 1"} {
		number, e := d.Enter(entry)
		want(t, "Enter to no desk", number, e, 0, api.ErrNil)
	}
	want(t, "the log of no desk", d.Log(), api.OK, nil, api.OK)
}

// R3: a desk keeps nothing of its shop, and gives nothing of its log away.
func TestDeskSharesNothing(t *testing.T) {
	s := plain()
	s.Text.Exceptions, s.Text.Bars = []string{"aa-a"}, []string{"f|i"}
	d := newDesk(t, s)
	enterAll(t, d, readingLog()...)
	for i := range s.Fount.Sorts {
		s.Fount.Sorts[i] = api.TypeSort{}
	}
	s.Text.Patterns[0], s.Text.Exceptions[0], s.Text.Bars[0] = "1", "1", "1"
	log := d.Log()
	other := d.Log()
	for i := range log {
		log[i] = "spoilt"
	}
	_ = append(log[:1], "spoilt", "spoilt")
	want(t, "the log", d.Log(), api.OK, readingLog(), api.OK)
	want(t, "another log", other, api.OK, readingLog(), api.OK)
	// The bar still stands, and the fount has no f.
	number, e := d.Enter("set s fi")
	want(t, "Enter of a barred word", number, e, 0, api.ErrMissing)
	enterAll(t, d, "again r", "set s afi")
	want(t, "an older log", other, api.OK, readingLog(), api.OK)
	want(t, "the log", d.Log(), api.OK, append(readingLog(), "again r", "set s afi"), api.OK)
}

// R4: desks are apart.
func TestTwoDesks(t *testing.T) {
	a, b := newDesk(t, plain()), newDesk(t, plain())
	enterAll(t, a, readingLog()...)
	enterAll(t, b, "cast a 1")
	want(t, "the log of a", a.Log(), api.OK, readingLog(), api.OK)
	want(t, "the log of b", b.Log(), api.OK, []string{"cast a 1"}, api.OK)
}

// P10.8, P10.12: a log that is accepted entry by entry by a desk is the log.
func TestMadeDesks(t *testing.T) {
	for seed := range int64(20) {
		m := newMaker(4000 + seed)
		d := newDesk(t, rich())
		var log []string
		at := &model{ShopSetup: rich()}
		for try := range 60 {
			entry := m.entry(rich().Fount, at.copies())
			if try == 0 {
				entry = "cast " + fullCase
			}
			longer, wanted := shop.Accept(rich(), log, entry)
			number, e := d.Enter(entry)
			want(t, "Enter "+entry, number, e, len(longer), wanted)
			if wanted == api.OK {
				log = longer
				at, _ = at.behind(entry)
			}
			want(t, "the log behind "+entry, d.Log(), api.OK, log, api.OK)
		}
		if !slices.Equal(d.Log(), log) {
			t.Errorf("the log of a desk: %q, want %q", d.Log(), log)
		}
	}
}
