package shop_test

import (
	"fmt"
	"reflect"
	"slices"
	"strings"
	"testing"

	"tympan/api"
	"tympan/shop"
)

// arguments is what the functions take.
type arguments struct {
	s           api.ShopSetup
	log         []string
	entry, name string
	words       []string
	c           [2]string
	q           string
	p           api.ShopPrices
	line        string
}

// call is a function of the package with some arguments; its results but for the error, and the error.
type call struct {
	name string
	do   func(x arguments) ([]any, api.Errno)
}

func results(e api.Errno, r ...any) ([]any, api.Errno) {
	return r, e
}

// calls is all functions with a shop and a log that return an error.
func calls() []call {
	type a = arguments
	return []call{
		{"Accept", func(x a) ([]any, api.Errno) { l, e := shop.Accept(x.s, x.log, x.entry); return results(e, l) }},
		{"StateOf", func(x a) ([]any, api.Errno) { s, n, e := shop.StateOf(x.s, x.log); return results(e, s, n) }},
		{"WhereIs", func(x a) ([]any, api.Errno) { w, e := shop.WhereIs(x.s, x.log, x.name); return results(e, w) }},
		{"Total", func(x a) ([]any, api.Errno) { l, n, e := shop.Total(x.s, x.log); return results(e, l, n) }},
		{"CopyOf", func(x a) ([]any, api.Errno) { l, e := shop.CopyOf(x.s, x.log, x.name); return results(e, l) }},
		{"ReadPage", func(x a) ([]any, api.Errno) { l, e := shop.ReadPage(x.s, x.log, x.name); return results(e, l) }},
		{"CanSet", func(x a) ([]any, api.Errno) { n, e := shop.CanSet(x.s, x.log, x.words); return results(e, n) }},
		{"Moves", func(x a) ([]any, api.Errno) { m, e := shop.Moves(x.s, x.log, x.c); return results(e, m) }},
		{"Together", func(x a) ([]any, api.Errno) { l, e := shop.Together(x.s, x.log); return results(e, l) }},
		{"Query", func(x a) ([]any, api.Errno) { l, e := shop.Query(x.s, x.log, x.q); return results(e, l) }},
		{"Counts", func(x a) ([]any, api.Errno) { c, e := shop.Counts(x.s, x.log); return results(e, c) }},
		{"Invoice", func(x a) ([]any, api.Errno) { l, n, e := shop.Invoice(x.s, x.log, x.p); return results(e, l, n) }},
	}
}

// others is the other functions.
func others() []call {
	type a = arguments
	return []call{
		{"CheckSetup", func(x a) ([]any, api.Errno) { return nil, shop.CheckSetup(x.s) }},
		{"Journal", func(x a) ([]any, api.Errno) { s, e := shop.Journal(x.log); return results(e, s) }},
		{"Recover", func(x a) ([]any, api.Errno) { l, n := shop.Recover(x.line); return results(api.OK, l, n) }},
		{"Do", func(x a) ([]any, api.Errno) { l, s := shop.Do(x.s, x.log, x.line); return results(api.OK, l, s) }},
	}
}

// rightArguments is those with which no function of calls has an error. "p" is a page and no sort, so
// that the plain shop is given a sort of this name.
func rightArguments() arguments {
	s := plain()
	s.Fount.Sorts[plainLigature].Name = "p"
	log := readingLog()
	log[0] = strings.Replace(log[0], "fi", "p", 1)
	return arguments{
		s:     s,
		log:   log,
		entry: "again r",
		name:  "p",
		words: []string{"abc", "cab"},
		c:     [2]string{"p", "in 0 2 fi"},
		q:     "state standing printed 0",
		p:     api.ShopPrices{Sort: 2, Sheet: 3},
		line:  "do again r",
	}
}

// wrongArguments is wrong in all ways, but for the shop.
func wrongArguments() arguments {
	return arguments{
		s:     plain(),
		log:   []string{"", "\x00\n", strings.Repeat("x", 400)},
		entry: "\n",
		name:  "\xff ",
		words: []string{"", "\n", letters(99)},
		c:     [2]string{"", "\n"},
		q:     " ",
		p:     api.ShopPrices{Sort: small, Sheet: great},
		line:  "\x00",
	}
}

// isZero tells whether all results are zero values; an empty slice is one.
func isZero(results []any) bool {
	for _, r := range results {
		if !alike(r, reflect.Zero(reflect.TypeOf(r)).Interface()) {
			return false
		}
	}
	return true
}

// P1, R1, R2: what is wrong in all ways ends, with an error and with zero values.
func TestZeroBesideErrors(t *testing.T) {
	wrong, nothing := wrongArguments(), arguments{s: plain()}
	behind := changed(wrong, func(x *arguments) { x.log = readingLog() })
	// These have no error behind a right log.
	never := []string{"StateOf", "Total", "Together", "Counts"}
	for _, c := range calls() {
		for _, x := range []arguments{wrong, {}, behind, nothing} {
			r, e := c.do(x)
			if e != api.OK && !isZero(r) {
				t.Errorf("%s of wrong arguments: %v, error %d", c.name, r, e)
			}
		}
		if _, e := c.do(wrong); e == api.OK {
			t.Errorf("%s of wrong arguments: no error", c.name)
		}
		if _, e := c.do(behind); (e == api.OK) != slices.Contains(never, c.name) {
			t.Errorf("%s of wrong arguments behind a right log: error %d", c.name, e)
		}
	}
	for _, c := range others() {
		for _, x := range []arguments{wrong, {}, behind, nothing} {
			if r, e := c.do(x); e != api.OK && !isZero(r) {
				t.Errorf("%s of wrong arguments: %v, error %d", c.name, r, e)
			}
		}
	}
}

// spoil writes into all that can be written of a value, up to the capacity of its slices.
func spoil(v reflect.Value) {
	switch v.Kind() {
	case reflect.Slice:
		v = v.Slice(0, v.Cap())
		for i := range v.Len() {
			spoil(v.Index(i))
		}
	case reflect.Array:
		for i := range v.Len() {
			spoil(v.Index(i))
		}
	case reflect.Struct:
		for i := range v.NumField() {
			spoil(v.Field(i))
		}
	case reflect.Int:
		if v.CanSet() {
			v.SetInt(-7)
		}
	case reflect.String:
		if v.CanSet() {
			v.SetString("spoilt")
		}
	case reflect.Bool:
		if v.CanSet() {
			v.SetBool(!v.Bool())
		}
	}
}

// R3, R4: no call writes into its arguments, and results share no memory with arguments or with the
// results of other calls.
func TestNothingIsShared(t *testing.T) {
	for _, line := range []string{"do again r", "query ", "none", "0 x\n"} {
		x := rightArguments()
		x.line = line
		was := fmt.Sprint(x)
		for _, c := range append(calls(), others()...) {
			first, e := c.do(x)
			wantError(t, c.name, e, api.OK)
			text := fmt.Sprint(first)
			for _, r := range first {
				spoil(reflect.ValueOf(r))
			}
			if second, again := c.do(x); again != e || fmt.Sprint(second) != text {
				t.Errorf("%s once more: %v, %d, first %s", c.name, second, again, text)
			}
			if fmt.Sprint(x) != was {
				t.Fatalf("%s has written into its arguments", c.name)
			}
		}
	}
}

// R3: what stands behind the end of an argument is not written into either.
func TestSpareMemory(t *testing.T) {
	x := rightArguments()
	x.s.Text.Exceptions, x.s.Text.Bars = []string{"a-a"}, []string{"f|i"}
	x.log, x.words = slices.Grow(x.log, 9), slices.Grow(x.words, 9)
	x.s.Fount.Sorts = slices.Grow(x.s.Fount.Sorts, 9)
	x.s.Text.Patterns = slices.Grow(x.s.Text.Patterns, 9)
	behind := func() string {
		return fmt.Sprint(x.log[:len(x.log)+3], x.words[:4], x.s.Fount.Sorts[:plainSorts+3], x.s.Text.Patterns[:3])
	}
	was := behind()
	for _, c := range append(calls(), others()...) {
		c.do(x)
		if now := behind(); now != was {
			t.Fatalf("%s has written behind its arguments: %s, was %s", c.name, now, was)
		}
	}
}

// slicesOf is all slices of a value that have room.
func slicesOf(v reflect.Value) []reflect.Value {
	var l []reflect.Value
	switch v.Kind() {
	case reflect.Slice:
		if v.Cap() > 0 {
			l = append(l, v)
		}
		fallthrough
	case reflect.Array:
		for i := range v.Len() {
			l = append(l, slicesOf(v.Index(i))...)
		}
	case reflect.Struct:
		for i := range v.NumField() {
			l = append(l, slicesOf(v.Field(i))...)
		}
	}
	return l
}

// overlap tells whether two slices share memory, up to their capacities.
func overlap(a, b reflect.Value) bool {
	end := func(v reflect.Value) uintptr { return v.Pointer() + uintptr(v.Cap())*v.Type().Elem().Size() }
	return a.Pointer() < end(b) && b.Pointer() < end(a)
}

// R3: no two slices of a result share memory, whatever was done before; nor do those of two results.
func TestResultsShareNothing(t *testing.T) {
	log := slices.Concat(readingLog(), []string{"correct p in 0 2 ab", "correct p change 0 0 aaaa bbaa", "again r", "unlock f", "correct q in 0 1 c", "lock f p q", "lock g r"})
	state := stateOf(t, plain(), log)
	moves, e := shop.Moves(plain(), readingLog(), [2]string{"p", "in 0 2 fi"})
	wantError(t, "Moves", e, api.OK)
	longer, e := shop.Accept(plain(), log, "cast a 1")
	wantError(t, "Accept", e, api.OK)
	all := slices.Concat(slicesOf(reflect.ValueOf(state)), slicesOf(reflect.ValueOf(moves)), slicesOf(reflect.ValueOf(longer)), slicesOf(reflect.ValueOf(log)))
	if len(all) < 20 {
		t.Errorf("%d slices alone", len(all))
	}
	for i, a := range all {
		for _, b := range all[:i] {
			if overlap(a, b) {
				t.Errorf("%v and %v share memory", a, b)
			}
		}
	}
}
