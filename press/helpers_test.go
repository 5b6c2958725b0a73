package press_test

import (
	"math/rand"
	"reflect"
	"slices"
	"testing"

	"tympan/api"
	"tympan/press"
)

// great is a number that no limit allows, small the least one of all.
const (
	great = 1<<63 - 1
	small = -great - 1
)

// alike tells whether two values are equal, if a nil slice and an empty one are the same.
func alike(a, b any) bool {
	return alikeValues(reflect.ValueOf(a), reflect.ValueOf(b))
}

func alikeValues(a, b reflect.Value) bool {
	switch a.Kind() {
	case reflect.Slice, reflect.Array:
		if a.Len() != b.Len() {
			return false
		}
		for i := range a.Len() {
			if !alikeValues(a.Index(i), b.Index(i)) {
				return false
			}
		}
		return true
	case reflect.Struct:
		for i := range a.NumField() {
			if !alikeValues(a.Field(i), b.Field(i)) {
				return false
			}
		}
		return true
	}
	return a.Interface() == b.Interface()
}

// want fails the test if a result with an error is not the one that is wanted.
func want[T any](t *testing.T, what string, got T, e api.Errno, wanted T, wantError api.Errno) {
	t.Helper()
	if e != wantError || !alike(got, wanted) {
		t.Errorf("%s: %v, error %d, want %v, error %d", what, got, e, wanted, wantError)
	}
}

// changed is a value with a change.
func changed[T any](x T, change func(x *T)) T {
	change(&x)
	return x
}

// poster is the run of the examples.
func poster() api.PressRun {
	return api.PressRun{Job: "poster", Day: 3, Wanted: 100, Given: 110, Colours: []string{"red", "blue"}, Ready: 30, Hour: 600}
}

// pin is a pin with enclosures of its numbers.
func pin(columnLo, columnHi, rowLo, rowHi, turnLo, turnHi int) api.PressPin {
	return api.PressPin{Column: api.Range{Lo: columnLo, Hi: columnHi}, Row: api.Range{Lo: rowLo, Hi: rowHi}, Turn: api.Range{Lo: turnLo, Hi: turnHi}}
}

// pins is the pins of the examples.
func pins() []api.PressPin {
	return []api.PressPin{pin(0, 2, 0, 0, 0, 0), pin(5, 6, 0, 0, 0, 0)}
}

// three is the colours of the examples.
func three() api.PressColours {
	return api.PressColours{Minutes: []int{10, 20, 30}, Dry: [][]int{{0, 60, 0}, {-1, 0, -1}, {0, 0, 0}}}
}

// wet is colours none of which has to dry.
func wet(minutes ...int) api.PressColours {
	return dryFor(0, minutes...)
}

// dryFor is colours each one of which dries so long ahead of all others.
func dryFor(dry int, minutes ...int) api.PressColours {
	c := api.PressColours{Minutes: minutes}
	for range minutes {
		c.Dry = append(c.Dry, slices.Repeat([]int{dry}, len(minutes)))
	}
	return c
}

func job(name string, ready, minutes, due int) api.PressJob {
	return api.PressJob{Name: name, Ready: ready, Minutes: minutes, Due: due}
}

func slice(job, from, minutes int) api.PressSlice {
	return api.PressSlice{Job: job, From: from, Minutes: minutes}
}

// two is the jobs of the examples.
func two() []api.PressJob {
	return []api.PressJob{job("a", 0, 10, 20), job("b", 4, 3, 8)}
}

// interrupted is the schedule of the examples.
func interrupted() []api.PressSlice {
	return []api.PressSlice{slice(0, 0, 4), slice(1, 4, 3), slice(0, 7, 6)}
}

// allOrders is the orders of so many things, the lexicographically first one first: each thing, and
// behind it the orders of the others.
func allOrders(count int) [][]int {
	things := []int{}
	for i := range count {
		things = append(things, i)
	}
	return ordersOf(things)
}

func ordersOf(things []int) [][]int {
	if len(things) == 0 {
		return [][]int{{}}
	}
	var all [][]int
	for i, thing := range things {
		for _, rest := range ordersOf(slices.Delete(slices.Clone(things), i, i+1)) {
			all = append(all, append([]int{thing}, rest...))
		}
	}
	return all
}

// maker makes what the functions take, the same in every run.
type maker struct{ *rand.Rand }

func newMaker(seed int64) maker {
	return maker{rand.New(rand.NewSource(seed))}
}

// from makes a number from lo to hi.
func (m maker) from(lo, hi int) int {
	return lo + m.Intn(hi-lo+1)
}

// name makes a name that is mostly another one than those of other numbers.
func (m maker) name(number int) string {
	return string(rune('a'+number)) + "abcDEF019-"[:m.Intn(11)]
}

// run makes a right run.
func (m maker) run() api.PressRun {
	x := api.PressRun{Job: m.name(m.Intn(26)), Day: m.from(0, 100000), Wanted: m.from(1, 2000), Ready: m.from(0, 10000), Hour: m.from(1, 10000)}
	x.Given = m.from(x.Wanted, 2000)
	if m.Intn(2) == 0 {
		x.Hour = m.from(1, 30)
	}
	for i := range m.from(1, 6) {
		x.Colours = append(x.Colours, m.name(i))
	}
	return x
}

func (m maker) prices() api.PressPrices {
	return api.PressPrices{Sheet: m.from(0, 1000000), Colour: m.from(0, 1000000), Hour: m.from(0, 1000000)}
}

// colours makes right colours, of which at most some pairs may not stand so.
func (m maker) colours(most int) api.PressColours {
	count, minutes, dry, barred := m.from(0, most), m.from(0, 12), m.from(0, 30), m.Intn(4)
	c := dryFor(0, make([]int, count)...)
	for i := range count {
		c.Minutes[i] = m.from(0, minutes)
		for k := range count {
			c.Dry[i][k] = m.from(0, dry)
			if m.Intn(6) < barred {
				c.Dry[i][k] = -1
			}
		}
	}
	return c
}

// jobs makes right jobs.
func (m maker) jobs(most, ready, minutes, due int) []api.PressJob {
	var l []api.PressJob
	for i := range m.from(1, most) {
		l = append(l, job(m.name(i), m.from(0, ready), m.from(1, minutes), m.from(0, due)))
	}
	return l
}

// table makes a table of minutes.
func (m maker) table(count, most int) [][]int {
	var minutes [][]int
	for range count {
		var row []int
		for range count {
			row = append(row, m.from(0, most))
		}
		minutes = append(minutes, row)
	}
	return minutes
}

// isAccepted tells whether a tree is; it fails the test if there is an error that trees never have.
func isAccepted(t *testing.T, c api.PressColours, minutes int, tree []api.ColourNode) bool {
	t.Helper()
	_, e := press.CheckColourTree(c, minutes, tree)
	if e == api.ErrRange || e == api.ErrLarge {
		t.Errorf("CheckColourTree of %v, %d, %v: error %d", c, minutes, tree, e)
	}
	return e == api.OK
}
