package press_test

import (
	"fmt"
	"reflect"
	"slices"
	"testing"

	"tympan/api"
	"tympan/press"
)

// arguments is what the functions take.
type arguments struct {
	x           api.PressRun
	p           api.PressPrices
	s           api.SheetRun
	good        int
	spoil, risk api.Frac
	pins        []api.PressPin
	pair        [2]int
	c           api.PressColours
	order       []int
	minutes     int
	tree        []api.ColourNode
	jobs        []api.PressJob
	slices      []api.PressSlice
	set         []int
	table       [][]int
	ready       []int
	text        string
}

// call is a function of the package with some arguments; its results but for the error, and the error.
type call struct {
	name string
	do   func(x arguments) ([]any, api.Errno)
}

func results(e api.Errno, r ...any) ([]any, api.Errno) {
	return r, e
}

// calls is all functions but FormatRun and those that return an error alone.
func calls() []call {
	type a = arguments
	return []call{
		{"RunMinutes", func(x a) ([]any, api.Errno) { n, e := press.RunMinutes(x.x); return results(e, n) }},
		{"Estimate", func(x a) ([]any, api.Errno) { n, e := press.Estimate(x.x, x.p); return results(e, n) }},
		{"ParseRun", func(x a) ([]any, api.Errno) { r, e := press.ParseRun(x.text); return results(e, r) }},
		{"ChanceOf", func(x a) ([]any, api.Errno) { p, e := press.ChanceOf(x.s); return results(e, p) }},
		{"LeastSheets", func(x a) ([]any, api.Errno) {
			n, e := press.LeastSheets(x.good, x.spoil, x.risk)
			return results(e, n)
		}},
		{"ExpectedGood", func(x a) ([]any, api.Errno) { f, e := press.ExpectedGood(x.good, x.spoil); return results(e, f) }},
		{"Offset", func(x a) ([]any, api.Errno) { r, e := press.Offset(x.pins, x.pair); return results(e, r) }},
		{"InRegister", func(x a) ([]any, api.Errno) { n, e := press.InRegister(x.pins, x.minutes); return results(e, n) }},
		{"OrderMinutes", func(x a) ([]any, api.Errno) { n, e := press.OrderMinutes(x.c, x.order); return results(e, n) }},
		{"BestOrder", func(x a) ([]any, api.Errno) { l, n, tree, e := press.BestOrder(x.c); return results(e, l, n, tree) }},
		{"CheckColourTree", func(x a) ([]any, api.Errno) {
			n, e := press.CheckColourTree(x.c, x.minutes, x.tree)
			return results(e, n)
		}},
		{"Schedule", func(x a) ([]any, api.Errno) { l, n, set, e := press.Schedule(x.jobs); return results(e, l, n, set) }},
		{"CheckSchedule", func(x a) ([]any, api.Errno) {
			n, job, e := press.CheckSchedule(x.jobs, x.slices)
			return results(e, n, job)
		}},
		{"CheckBound", func(x a) ([]any, api.Errno) { n, e := press.CheckBound(x.jobs, x.set); return results(e, n) }},
		{"MakeReady", func(x a) ([]any, api.Errno) { n, e := press.MakeReady(x.table, x.ready); return results(e, n) }},
		{"LeastMakeReady", func(x a) ([]any, api.Errno) { l, n, e := press.LeastMakeReady(x.table); return results(e, l, n) }},
	}
}

// checks is all functions that return an error alone.
func checks() []call {
	type a = arguments
	return []call{
		{"CheckRun", func(x a) ([]any, api.Errno) { return nil, press.CheckRun(x.x) }},
		{"CheckPins", func(x a) ([]any, api.Errno) { return nil, press.CheckPins(x.pins) }},
		{"CheckColours", func(x a) ([]any, api.Errno) { return nil, press.CheckColours(x.c) }},
		{"CheckJobs", func(x a) ([]any, api.Errno) { return nil, press.CheckJobs(x.jobs) }},
		{"FormatRun", func(x a) ([]any, api.Errno) { return []any{press.FormatRun(x.x)}, api.OK }},
	}
}

// rightArguments is mostly those of the examples.
func rightArguments() arguments {
	_, _, tree, _ := press.BestOrder(three())
	return arguments{
		x:       poster(),
		p:       api.PressPrices{Sheet: 5, Colour: 100, Hour: 3000},
		s:       api.SheetRun{Sheets: 3, Good: 2, Spoil: frac(1, 10)},
		good:    2,
		spoil:   frac(1, 10),
		risk:    frac(1, 30),
		pins:    pins(),
		pair:    [2]int{0, 1},
		c:       three(),
		order:   []int{0, 2, 1},
		minutes: 90,
		tree:    tree,
		jobs:    two(),
		slices:  interrupted(),
		set:     []int{1},
		table:   exampleTable(),
		ready:   []int{1, 0},
		text:    posterText,
	}
}

// isZero tells whether all results are zero values; an empty slice is one.
func isZero(results []any) bool {
	for _, r := range results {
		if !alike(r, reflect.Zero(reflect.TypeOf(r)).Interface()) {
			return false
		}
	}
	return true
}

// P1, R1, R2: what is wrong in all ways ends, with an error and with zero values.
func TestZeroBesideErrors(t *testing.T) {
	wrong := arguments{
		x:       api.PressRun{Job: "\x00", Day: small, Wanted: great, Given: small, Colours: []string{"", ""}, Ready: great, Hour: small},
		p:       api.PressPrices{Sheet: small, Colour: great, Hour: small},
		s:       api.SheetRun{Sheets: great, Good: small, Spoil: frac(small, small)},
		good:    great,
		spoil:   frac(small, 0),
		risk:    frac(great, small),
		pins:    []api.PressPin{pin(great, small, 0, 0, 0, 0), pin(small, great, 0, 0, 0, 0)},
		pair:    [2]int{small, great},
		c:       api.PressColours{Minutes: []int{small, great}, Dry: [][]int{{great}, nil, {small, small}}},
		order:   []int{small, great, 0},
		minutes: great,
		tree:    []api.ColourNode{colourSplit(small, great), colourLeaf(small)},
		jobs:    []api.PressJob{job("\xff", small, great, small), job("", great, small, great)},
		slices:  []api.PressSlice{slice(small, great, small), slice(great, small, great)},
		set:     []int{great, small},
		table:   [][]int{{small, great}, {great}},
		ready:   []int{small, great},
		text:    "\x00",
	}
	for _, c := range calls() {
		if r, e := c.do(wrong); e == api.OK || !isZero(r) {
			t.Errorf("%s of wrong arguments: %v, error %d", c.name, r, e)
		}
		if r, e := c.do(arguments{good: -1, minutes: -1}); e != api.OK && !isZero(r) {
			t.Errorf("%s of nothing: %v, error %d", c.name, r, e)
		}
	}
	for _, c := range checks() {
		if _, e := c.do(wrong); e == api.OK && c.name != "FormatRun" {
			t.Errorf("%s of wrong arguments: no error", c.name)
		}
	}
}

// spoil writes into all that can be written of a value, up to the capacity of its slices.
func spoil(v reflect.Value) {
	switch v.Kind() {
	case reflect.Slice:
		v = v.Slice(0, v.Cap())
		for i := range v.Len() {
			spoil(v.Index(i))
		}
	case reflect.Array:
		for i := range v.Len() {
			spoil(v.Index(i))
		}
	case reflect.Struct:
		for i := range v.NumField() {
			spoil(v.Field(i))
		}
	case reflect.Int:
		if v.CanSet() {
			v.SetInt(-7)
		}
	case reflect.String:
		if v.CanSet() {
			v.SetString("spoilt")
		}
	}
}

// R3, R4: no call writes into its arguments, and results share no memory with arguments or with the
// results of other calls.
func TestNothingIsShared(t *testing.T) {
	x := rightArguments()
	was := fmt.Sprint(x)
	for _, c := range append(calls(), checks()...) {
		first, e := c.do(x)
		if e != api.OK {
			t.Errorf("%s: error %d", c.name, e)
		}
		text := fmt.Sprint(first)
		for _, r := range first {
			spoil(reflect.ValueOf(r))
		}
		if second, again := c.do(x); again != e || fmt.Sprint(second) != text {
			t.Errorf("%s once more: %v, %d, first %s", c.name, second, again, text)
		}
		if fmt.Sprint(x) != was {
			t.Fatalf("%s has written into its arguments", c.name)
		}
	}
}

// R3: what stands behind the end of an argument is not written into either.
func TestSpareMemory(t *testing.T) {
	x := rightArguments()
	behind := func() string {
		return fmt.Sprint(x.x.Colours[:3], x.pins[:3], x.order[:4], x.tree[:len(x.tree)+1], x.jobs[:3], x.slices[:4], x.set[:2], x.ready[:3], x.c.Dry[0][:4])
	}
	x.x.Colours = slices.Grow(x.x.Colours, 9)
	x.pins, x.order, x.tree = slices.Grow(x.pins, 9), slices.Grow(x.order, 9), slices.Grow(x.tree, 9)
	x.jobs, x.slices, x.set, x.ready = slices.Grow(x.jobs, 9), slices.Grow(x.slices, 9), slices.Grow(x.set, 9), slices.Grow(x.ready, 9)
	x.c.Dry[0] = slices.Grow(x.c.Dry[0], 9)
	was := behind()
	for _, c := range append(calls(), checks()...) {
		c.do(x)
		if now := behind(); now != was {
			t.Fatalf("%s has written behind its arguments: %s, was %s", c.name, now, was)
		}
	}
}

// R3: no two slices of a result share memory.
func TestResultsShareNothing(t *testing.T) {
	order, _, tree, e := press.BestOrder(dryFor(9, 1, 2, 3, 4))
	want(t, "BestOrder", len(order), e, 4, api.OK)
	for i := range tree {
		others := func() string { return fmt.Sprint(order, tree[:i], tree[i+1:]) }
		was := others()
		spoil(reflect.ValueOf(tree[i].Next))
		if now := others(); now != was {
			t.Errorf("the branches of node %d share memory with others: %s, were %s", i, now, was)
		}
	}
	was := fmt.Sprint(tree)
	spoil(reflect.ValueOf(order))
	if now := fmt.Sprint(tree); now != was {
		t.Errorf("the order shares memory with the tree: %s, was %s", now, was)
	}
	schedule, _, set, e := press.Schedule(two())
	want(t, "Schedule", set, e, []int{1}, api.OK)
	spoil(reflect.ValueOf(set))
	want(t, "Schedule", schedule, e, interrupted(), api.OK)
}
