package shop_test

import (
	"fmt"
	"math/big"
	"slices"
	"strconv"
	"strings"
	"testing"

	"tympan/api"
	"tympan/shop"
)

// journalOf is the journal of a log by its definition; the checks are not bounded but at the end.
func journalOf(log []string) string {
	journal := ""
	check := new(big.Int)
	for _, entry := range log {
		for i := range len(entry) {
			check.Mul(check, big.NewInt(259))
			check.Add(check, big.NewInt(int64(entry[i])+1))
		}
		check.Mod(check, big.NewInt(999999929))
		journal += check.String() + " " + entry + "\n"
	}
	return journal
}

// recovered is the longest beginning of a text that is a journal, found by trying all of them.
func recovered(text string) ([]string, int) {
	var log, read []string
	bytes, at := 0, 0
	for line := range strings.Lines(text) {
		at += len(line)
		_, entry, _ := strings.Cut(strings.TrimSuffix(line, "\n"), " ")
		read = append(read, entry)
		if journal, e := shop.Journal(read); e == api.OK && journal == text[:at] {
			log, bytes = slices.Clone(read), at
		}
	}
	return log, bytes
}

func wantRecovered(t *testing.T, text string, log []string, bytes int) {
	t.Helper()
	got, n := shop.Recover(text)
	want(t, fmt.Sprintf("Recover of %.200q", text), got, api.OK, log, api.OK)
	want(t, fmt.Sprintf("the bytes of %.200q", text), n, api.OK, bytes, api.OK)
}

// P10.6: journals, also of entries that no shop accepts.
func TestJournal(t *testing.T) {
	all := ""
	for b := range 256 {
		if b != '\n' {
			all += string([]byte{byte(b)})
		}
	}
	for _, log := range [][]string{
		nil,
		{""},
		{"", "", "a", ""},
		{"a", "b"},
		exampleLog(),
		{all, " ", "a b ", all},
		{letters(300), strings.Repeat("\xff", 300)},
		repeated(strings.Repeat("~", 300), 60),
	} {
		journal, e := shop.Journal(log)
		want(t, fmt.Sprintf("Journal of %.200q", log), journal, e, journalOf(log), api.OK)
		wantRecovered(t, journal, log, len(journal))
	}
	journal, e := shop.Journal([]string{"a", "b"})
	want(t, "Journal of the example", journal, e, "98 a\n25481 b\n", api.OK)
	journal, e = shop.Journal([]string{"", "a"})
	want(t, "Journal of an empty entry", journal, e, "0 \n98 a\n", api.OK)
}

// P10.6: logs that have no journal.
func TestErrorsOfJournal(t *testing.T) {
	for _, x := range []struct {
		log []string
		e   api.Errno
	}{
		{repeated("a", 61), api.ErrLarge},
		{repeated("\n", 61), api.ErrLarge},
		{[]string{"a", letters(301)}, api.ErrLarge},
		{[]string{"a", letters(301), "\n"}, api.ErrLarge},
		{[]string{"a", "\n", letters(301)}, api.ErrSyntax},
		{[]string{"a\n"}, api.ErrSyntax},
		{[]string{"\n" + letters(300)}, api.ErrLarge},
		{[]string{"\n" + letters(299)}, api.ErrSyntax},
	} {
		journal, e := shop.Journal(x.log)
		want(t, fmt.Sprintf("Journal of %.200q", x.log), journal, e, "", x.e)
	}
}

// P10.6: texts that are no journals, but for a beginning.
func TestRecover(t *testing.T) {
	for _, x := range []struct {
		text  string
		log   []string
		bytes int
	}{
		{"", nil, 0},
		{"\n", nil, 0},
		{" \n", nil, 0},
		{"0\n", nil, 0},
		{"0 ", nil, 0},
		{"0 \n", []string{""}, 3},
		{"0 \n0 \n0\n", []string{"", ""}, 6},
		{"98 a", nil, 0},
		{"98 a\n", []string{"a"}, 5},
		{"98 a\n25481 b", []string{"a"}, 5},
		{"98 a\n25481 b\n", []string{"a", "b"}, 13},
		{"98 a\n25481 b\nx", []string{"a", "b"}, 13},
		{"98 a\n25480 b\n", []string{"a"}, 5},
		{"98 a\n99 b\n", []string{"a"}, 5},
		{"98 a\n\n25481 b\n", []string{"a"}, 5},
		{"98 a\r\n", nil, 0},
		{"098 a\n", nil, 0},
		{"+98 a\n", nil, 0},
		{" 98 a\n", nil, 0},
		{"98  a\n", nil, 0},
		{"98\ta\n", nil, 0},
		{"98a\n", nil, 0},
		{"98 \n", nil, 0},
		{"\n98 a\n", nil, 0},
		{"99 b\n98 a\n", []string{"b"}, 5},
		{"98 a\n98 a\n", []string{"a"}, 5},
	} {
		wantRecovered(t, x.text, x.log, x.bytes)
		log, bytes := recovered(x.text)
		want(t, "the beginning of "+x.text, log, api.OK, x.log, api.OK)
		want(t, "the bytes of "+x.text, bytes, api.OK, x.bytes, api.OK)
	}
}

// P10.6: lines that would go on, but for the limits of a log.
func TestRecoverLimits(t *testing.T) {
	log := repeated("a", 61)
	journal := journalOf(log)
	wantRecovered(t, journal, log[:60], len(journalOf(log[:60])))
	long := []string{"a", letters(301), "a"}
	wantRecovered(t, journalOf(long), long[:1], 5)
	long[1] = letters(300)
	wantRecovered(t, journalOf(long), long, len(journalOf(long)))
}

// P10.6, P10.12: a journal that is cut at any byte, or of which any byte is another one, has the
// entries before; what is found in it is a beginning of the log.
func TestRecoverAtAnyByte(t *testing.T) {
	log := slices.Concat(exampleLog(), []string{"", "x", "", "\x00\xff", strings.Repeat("long ", 60)})
	journal := journalOf(log)
	ends := []int{0}
	for i := range log {
		ends = append(ends, len(journalOf(log[:i+1])))
	}
	// entriesIn is how many lines end within so many bytes.
	entriesIn := func(bytes int) int {
		n := 0
		for ends[n] <= bytes {
			if n++; n == len(ends) {
				break
			}
		}
		return n - 1
	}
	for at := range len(journal) + 1 {
		n := entriesIn(at)
		wantRecovered(t, journal[:at], log[:n], ends[n])
	}
	for at := range len(journal) {
		for _, b := range []byte{journal[at] + 1, journal[at] ^ 1, ' ', '\n', '0', 0} {
			if b == journal[at] {
				continue
			}
			n := entriesIn(at)
			wantRecovered(t, journal[:at]+string([]byte{b})+journal[at+1:], log[:n], ends[n])
		}
	}
}

// P10.6: made texts, against all their beginnings.
func TestMadeRecover(t *testing.T) {
	found := 0
	for seed := range int64(300) {
		m := newMaker(seed)
		var log []string
		for range m.Intn(6) {
			log = append(log, strings.Repeat(oneOf(m, "", "a", " ", "set p a", "0 "), m.Intn(3)))
		}
		text := []byte(journalOf(log))
		for range m.Intn(3) {
			at := m.Intn(len(text) + 1)
			switch m.Intn(3) {
			case 0:
				text = slices.Insert(text, at, oneOf(m, []byte("\n 09a")...))
			case 1:
				text = text[:at]
			case 2:
				text = append(text, strconv.Itoa(at)...)
			}
		}
		wanted, bytes := recovered(string(text))
		wantRecovered(t, string(text), wanted, bytes)
		found += min(len(wanted), 1)
	}
	if found < 100 {
		t.Errorf("%d texts alone begin with a journal", found)
	}
}
