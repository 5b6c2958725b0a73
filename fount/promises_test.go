package fount_test

import (
	"fmt"
	"math/rand"
	"reflect"
	"slices"
	"testing"

	"tympan/api"
	"tympan/fount"
)

// maker makes founts, lists and cases, the same ones in every run.
type maker struct{ *rand.Rand }

func newMaker() maker {
	return maker{rand.New(rand.NewSource(1))}
}

func (m maker) fount() api.Fount {
	f := api.Fount{Name: "made", Body: 1 + m.Intn(api.MaxBody)}
	texts := map[string]bool{}
	for i := range 1 + m.Intn(20) {
		s := api.TypeSort{Name: "s" + string(rune('A'+i)), Kind: 1 + m.Intn(3), Width: 1 + m.Intn(api.MaxWidth)}
		for s.Kind != api.SortSpace && (s.Text == "" || texts[s.Text]) {
			s.Text = m.printed(s.Kind)
		}
		texts[s.Text] = true
		f.Sorts = append(f.Sorts, s)
	}
	return f
}

func (m maker) printed(kind int) string {
	n := 1
	if kind == api.SortLigature {
		n = 2 + m.Intn(3)
	}
	b := make([]byte, n)
	for i := range b {
		b[i] = byte('!' + m.Intn('~'-'!'+1))
	}
	return string(b)
}

// numbers makes n numbers from 0 to most.
func (m maker) numbers(n, most int) []int {
	l := make([]int, n)
	for i := range l {
		l[i] = m.Intn(most + 1)
	}
	return l
}

func sum(l []int) int {
	s := 0
	for _, n := range l {
		s += n
	}
	return s
}

// P1.8: nothing is lost.
func TestNothingIsLost(t *testing.T) {
	m := newMaker()
	for range 2000 {
		f := m.fount()
		counts, need := m.numbers(len(f.Sorts), 40), m.numbers(len(f.Sorts), 1+m.Intn(20))
		checkTaken(t, f, counts, need)
		checkTimes(t, f, counts, need)
		joined, e := fount.Joined(f, counts, need)
		all, _ := fount.MetalOf(f, joined)
		one, _ := fount.MetalOf(f, counts)
		other, _ := fount.MetalOf(f, need)
		if e != api.OK || all != one+other {
			t.Errorf("the metal of %v and %v joined: %d, of both %d and %d", counts, need, all, one, other)
		}
	}
}

func checkTaken(t *testing.T, f api.Fount, counts, need []int) {
	t.Helper()
	left, first, e := fount.Taken(f, counts, need)
	lacking, e2 := fount.Lacking(f, counts, need)
	if e2 != api.OK || (sum(lacking) == 0) != (e == api.OK) {
		t.Errorf("%v of %v: lacking %v, but Taken: %d", need, counts, lacking, e)
	}
	if e == api.OK {
		if again, e := fount.Joined(f, left, need); e != api.OK || !slices.Equal(again, counts) {
			t.Errorf("%v of %v taken and joined: %v, %d", need, counts, again, e)
		}
	} else if e != api.ErrStock || lacking[first] == 0 || sum(lacking[:first]) != 0 {
		t.Errorf("%v of %v: stopped by %d with %d, lacking %v", need, counts, first, e, lacking)
	}
}

func checkTimes(t *testing.T, f api.Fount, counts, need []int) {
	t.Helper()
	times, stop, e := fount.Times(f, counts, need)
	if sum(need) == 0 {
		if e != api.ErrZero {
			t.Errorf("Times of nothing: %d", e)
		}
		return
	}
	for range times {
		if counts, _, e = fount.Taken(f, counts, need); e != api.OK {
			t.Fatalf("%v cannot be taken %d times: %d", need, times, e)
		}
	}
	if _, first, e := fount.Taken(f, counts, need); e != api.ErrStock || first != stop {
		t.Errorf("%v taken %d times, once more: %d, %d, want %d", need, times, first, e, stop)
	}
}

// P1.9: bills.
func TestBills(t *testing.T) {
	m := newMaker()
	for range 2000 {
		f := m.fount()
		need, total := m.numbers(len(f.Sorts), 1+m.Intn(30)), m.Intn(200)
		if sum(need) == 0 {
			continue
		}
		bill, e := fount.BillFor(f, need, total)
		if e != api.OK || sum(bill) != total {
			t.Errorf("BillFor %v, %d: %v, %d", need, total, bill, e)
		}
		for i := range need {
			for j := range need {
				if need[i] > need[j] && bill[i] < bill[j] {
					t.Errorf("BillFor %v, %d: %v: less of %d than of %d", need, total, bill, i, j)
				}
			}
		}
		checkCast(t, f, m.Intn(1<<40), bill)
	}
}

func checkCast(t *testing.T, f api.Fount, metal int, bill []int) {
	t.Helper()
	if sum(bill) == 0 {
		return
	}
	times, left, e := fount.Cast(f, metal, bill)
	once, _ := fount.MetalOf(f, bill)
	if e != api.OK || left < 0 || left >= once || times*once+left != metal {
		t.Errorf("Cast of %d by %v: %d, %d, %d; a bill has %d", metal, bill, times, left, e, once)
	}
}

// P1.10: there and back.
func TestThereAndBack(t *testing.T) {
	m := newMaker()
	for range 2000 {
		f := m.fount()
		text, e := fount.Print(f)
		if back, mark, e2 := fount.Parse(text); e != api.OK || e2 != api.OK || mark != (api.TextMark{}) || !reflect.DeepEqual(back, f) {
			t.Errorf("Parse of %q: %v, %v, %d, %d", text, back, mark, e, e2)
		}
		counts := m.numbers(len(f.Sorts), m.Intn(3)*m.Intn(api.MaxCount/4))
		text, e = fount.FormatCase(f, counts)
		if back, e2 := fount.ParseCase(f, text); e != api.OK || e2 != api.OK || !slices.Equal(back, counts) {
			t.Errorf("ParseCase of %q: %v, %d, %d", text, back, e, e2)
		}
		checkSums(t, f, m.numbers(m.Intn(20), len(f.Sorts)-1), m.numbers(m.Intn(20), len(f.Sorts)-1))
	}
}

func checkSums(t *testing.T, f api.Fount, a, b []int) {
	t.Helper()
	both := slices.Concat(a, b)
	widthA, _ := fount.WidthOf(f, a)
	widthB, _ := fount.WidthOf(f, b)
	if width, e := fount.WidthOf(f, both); e != api.OK || width != widthA+widthB {
		t.Errorf("the width of %v and %v: %d, %d", a, b, width, e)
	}
	needA, _ := fount.NeedOf(f, a)
	needB, _ := fount.NeedOf(f, b)
	needs, _ := fount.Joined(f, needA, needB)
	if need, e := fount.NeedOf(f, both); e != api.OK || !slices.Equal(need, needs) || sum(need) != len(both) {
		t.Errorf("the need of %v and %v: %v, %d", a, b, need, e)
	}
}

// R3, R4: no call writes into its arguments, and results share no memory with arguments or with
// the results of other calls.
func TestNothingIsShared(t *testing.T) {
	f, list, counts, need := roman(), []int{0, 3, 4, 1, 2}, []int{3, 2, 0, 5, 5}, []int{1, 1, 0, 2, 0}
	needs := [][]int{{3, 2, 1, 0, 0}, {1, 4, 0, 0, 2}}
	for _, c := range calls(list, counts, need, needs) {
		first, e := c.do(f)
		if e != api.OK {
			t.Errorf("%s: error %d", c.name, e)
		}
		was := fmt.Sprint(first)
		for _, r := range first {
			if l, ok := r.([]int); ok {
				l = l[:cap(l)]
				for i := range l {
					l[i] = -7
				}
			}
		}
		if second, e := c.do(f); e != api.OK || fmt.Sprint(second) != was {
			t.Errorf("%s once more: %v, %d, first %s", c.name, second, e, was)
		}
		if !reflect.DeepEqual(f, roman()) || fmt.Sprint(list, counts, need, needs) != "[0 3 4 1 2] [3 2 0 5 5] [1 1 0 2 0] [[3 2 1 0 0] [1 4 0 0 2]]" {
			t.Fatalf("%s has written into its arguments", c.name)
		}
	}
	one, _, _ := fount.Parse(romanText)
	one.Sorts[0].Name = "x"
	if two, _, e := fount.Parse(romanText); e != api.OK || !reflect.DeepEqual(two, roman()) {
		t.Errorf("Parse once more: %v, %d", two, e)
	}
}
