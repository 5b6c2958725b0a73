package paragraph_test

import (
	"slices"
	"testing"

	"tympan/api"
	"tympan/paragraph"
)

// wrongRules has rules with errors; each one has errors that are listed later, too.
func wrongRules() []struct {
	what string
	r    api.ParagraphRules
	e    api.Errno
} {
	type rule = api.ParagraphRules
	// What is behind the indent is wrong, but for what is put right.
	indented := api.ParagraphRules{Measure: 1400, Least: 0, Most: 10001, Gap: -1, Hyphen: -1, Single: -1, Double: -1}
	leased := changed(indented, func(r *rule) { r.Least = 120 })
	ranged := changed(leased, func(r *rule) { r.Most = 400 })
	gapped := changed(ranged, func(r *rule) { r.Gap = 3 })
	hyphened := changed(gapped, func(r *rule) { r.Hyphen = 5 })
	return []struct {
		what string
		r    api.ParagraphRules
		e    api.Errno
	}{
		{"the measure 0", changed(rules(), func(r *rule) { r.Measure, r.Gap = 0, 9 }), api.ErrRange},
		{"the measure -1", changed(rules(), func(r *rule) { r.Measure, r.Gap = -1, 9 }), api.ErrRange},
		{"the measure 1000001", changed(rules(), func(r *rule) { r.Measure, r.Gap = 1000001, 9 }), api.ErrRange},
		{"the indent -1", changed(rules(), func(r *rule) { r.Indent, r.Gap = -1, 9 }), api.ErrRange},
		{"the indent 20001", changed(rules(), func(r *rule) { r.Indent, r.Gap = 20001, 9 }), api.ErrRange},
		{"the least width 0", changed(indented, func(r *rule) { r.Most = 400 }), api.ErrRange},
		{"the least width 10001", changed(indented, func(r *rule) { r.Least, r.Most = 10001, 400 }), api.ErrRange},
		{"the greatest width 0", changed(leased, func(r *rule) { r.Most = 0 }), api.ErrRange},
		{"the greatest width 10001", leased, api.ErrRange},
		{"401 to 400", changed(ranged, func(r *rule) { r.Least = 401 }), api.ErrOrder},
		{"the gap -1", ranged, api.ErrMissing},
		{"the gap 6", changed(ranged, func(r *rule) { r.Gap = 6 }), api.ErrMissing},
		{"a great gap", changed(ranged, func(r *rule) { r.Gap = 1<<63 - 1 }), api.ErrMissing},
		{"a letter as a gap", changed(ranged, func(r *rule) { r.Gap = 0 }), api.ErrKind},
		{"a ligature as a gap", changed(ranged, func(r *rule) { r.Gap = 2 }), api.ErrKind},
		{"the gap 200 of 201 to 400", changed(gapped, func(r *rule) { r.Least = 201 }), api.ErrOrder},
		{"the gap 200 of 120 to 199", changed(gapped, func(r *rule) { r.Most = 199 }), api.ErrOrder},
		{"the hyphen -1", gapped, api.ErrMissing},
		{"the hyphen 6", changed(gapped, func(r *rule) { r.Hyphen = 6 }), api.ErrMissing},
		{"a space as a hyphen", changed(gapped, func(r *rule) { r.Hyphen = 4 }), api.ErrKind},
		{"-1 for a hyphen", changed(hyphened, func(r *rule) { r.Double = 0 }), api.ErrRange},
		{"100001 for a hyphen", changed(rules(), func(r *rule) { r.Single = 100001 }), api.ErrRange},
		{"-1 for two hyphens", changed(hyphened, func(r *rule) { r.Single = 0 }), api.ErrRange},
		{"100001 for two hyphens", changed(rules(), func(r *rule) { r.Double = 100001 }), api.ErrRange},
	}
}

// P4.1: what is rules.
func TestCheckRules(t *testing.T) {
	type rule = api.ParagraphRules
	for what, r := range map[string]api.ParagraphRules{
		"the examples":           rules(),
		"the least of all":       changed(rules(), func(r *rule) { r.Measure, r.Least, r.Single, r.Double = 1, 1, 0, 0 }),
		"the most of all":        {Measure: 1000000, Indent: 20000, Least: 200, Most: 10000, Gap: 3, Hyphen: 0, Single: 100000, Double: 100000},
		"one width":              changed(rules(), func(r *rule) { r.Least, r.Most = 200, 200 }),
		"the gap is the least":   changed(rules(), func(r *rule) { r.Gap = 4 }),
		"the gap is the most":    changed(rules(), func(r *rule) { r.Most = 200 }),
		"a ligature as a hyphen": changed(rules(), func(r *rule) { r.Hyphen = 2 }),
	} {
		if e := paragraph.CheckRules(roman(), r); e != api.OK {
			t.Errorf("CheckRules, %s: %d", what, e)
		}
	}
	f := small([]int{1}, 1, 10000)
	if e := paragraph.CheckRules(f, rule{Measure: 1, Least: 10000, Most: 10000, Gap: 2, Hyphen: 1}); e != api.OK {
		t.Errorf("CheckRules, the widest gaps: %d", e)
	}
	for _, c := range wrongRules() {
		if e := paragraph.CheckRules(roman(), c.r); e != c.e {
			t.Errorf("CheckRules, %s: %d, want %d", c.what, e, c.e)
		}
	}
	for want, f := range badFounts() {
		if e := paragraph.CheckRules(f, rule{}); e != want {
			t.Errorf("CheckRules, a wrong fount: %d, want %d", e, want)
		}
	}
}

// wrongWords has words with errors, and the number that is told with each of them.
func wrongWords() []struct {
	what   string
	words  []api.ParagraphWord
	number int
	e      api.Errno
} {
	type words = []api.ParagraphWord
	bad := word()
	long := append(same(0, 60), 9)
	return []struct {
		what   string
		words  []api.ParagraphWord
		number int
		e      api.Errno
	}{
		{"201 words", repeated(bad, 201), 0, api.ErrLarge},
		{"a word without sorts", words{word(0), {Breaks: []int{1}}, word(9)}, 1, api.ErrShape},
		{"a word of 61", words{word(0), word(1), divided(word(long...), 0), bad}, 2, api.ErrLarge},
		{"no sort 6", words{divided(word(0, 6, 3), 0), bad}, 0, api.ErrMissing},
		{"no sort -1", words{word(0), word(-1, 3)}, 1, api.ErrMissing},
		{"a great sort", words{word(0), word(0, 1<<63-1)}, 1, api.ErrMissing},
		{"a space", words{word(0), divided(word(0, 3, 9), 0), bad}, 1, api.ErrKind},
		{"a place 0", words{word(0), divided(word(0, 0, 0), 0, 9)}, 1, api.ErrRange},
		{"a place behind all sorts", words{divided(word(0, 0, 0), 1, 3), bad}, 0, api.ErrRange},
		{"a place of one sort", words{divided(word(0), 1)}, 0, api.ErrRange},
		{"a place -1", words{divided(word(0, 0, 0), 2, -1)}, 0, api.ErrRange},
		{"a great place", words{divided(word(0, 0, 0), 1<<63-1)}, 0, api.ErrRange},
		{"a place twice", words{word(0), word(0), divided(word(0, 0, 0), 2, 2, 9)}, 2, api.ErrOrder},
		{"a place that is less", words{divided(word(0, 0, 0), 2, 1, 9), bad}, 0, api.ErrOrder},
		{"301 places", append(repeated(everywhere(same(0, 60)...), 4), repeated(word(0), 60)...), 0, api.ErrLarge},
		{"12001 places", repeated(everywhere(same(0, 60)...), 200), 0, api.ErrLarge},
		{"many places ahead of an error", append(repeated(everywhere(same(0, 60)...), 6), bad), 6, api.ErrShape},
	}
}

// P4.1: what is words.
func TestCheckWords(t *testing.T) {
	for what, words := range map[string][]api.ParagraphWord{
		"example 1":    five(),
		"example 2":    four(),
		"none":         nil,
		"a ligature":   {word(2, 5)},
		"200 words":    repeated(word(0), 200),
		"a word of 60": {everywhere(same(1, 60)...)},
		"300 places":   append(repeated(everywhere(same(0, 60)...), 4), repeated(word(0), 59)...),
		"300 places, 200 words": append(
			append(repeated(everywhere(same(0, 50)...), 2), everywhere(0, 0)), repeated(word(0), 197)...),
	} {
		n, e := paragraph.CheckWords(roman(), words)
		wantNumber(t, "CheckWords, "+what, n, e, 0, api.OK)
	}
	for _, c := range wrongWords() {
		n, e := paragraph.CheckWords(roman(), c.words)
		wantNumber(t, "CheckWords, "+c.what, n, e, c.number, c.e)
	}
	for want, f := range badFounts() {
		n, e := paragraph.CheckWords(f, repeated(word(), 201))
		wantNumber(t, "CheckWords, a wrong fount", n, e, 0, want)
	}
}

// call is a function of the package with some arguments; its results but for the error, and the error.
type call struct {
	name string
	do   func(x arguments) ([]any, api.Errno)
}

// arguments is what the functions take.
type arguments struct {
	f      api.Fount
	counts []int
	r      api.ParagraphRules
	words  []api.ParagraphWord
	at     [2]int
	breaks []int
	labels []int
	lines  []api.TypeLine
	broken []bool
}

// rightArguments is those of example 2.
func rightArguments() arguments {
	return arguments{
		f:      roman(),
		counts: same(20, 6),
		r:      rules(),
		words:  four(),
		at:     [2]int{0, 3},
		breaks: []int{3, 5},
		labels: []int{0, most, most, 50, 50, 50},
		lines:  []api.TypeLine{lineOf(1400, 0, 3, 0, 3, 0, 5), lineOf(1400, 0, 3, 0, 3, 3, 3)},
		broken: []bool{true, false},
	}
}

// rulesCalls is the functions that take a fount, rules and words, in this order; Set and SetAt take
// a case ahead of the rules, too.
func rulesCalls() []call {
	type a = arguments
	return []call{
		{"LineAt", func(x a) ([]any, api.Errno) { r, e := paragraph.LineAt(x.f, x.r, x.words, x.at); return results(e, r) }},
		{"DemeritsOf", func(x a) ([]any, api.Errno) {
			r, e := paragraph.DemeritsOf(x.f, x.r, x.words, x.at)
			return results(e, r)
		}},
		{"Best", func(x a) ([]any, api.Errno) {
			b, l, d, e := paragraph.Best(x.f, x.r, x.words)
			return results(e, b, l, d)
		}},
		{"CheckBreaks", func(x a) ([]any, api.Errno) {
			r, e := paragraph.CheckBreaks(x.f, x.r, x.words, x.breaks)
			return results(e, r)
		}},
		{"CheckLabels", func(x a) ([]any, api.Errno) {
			r, e := paragraph.CheckLabels(x.f, x.r, x.words, x.labels)
			return results(e, r)
		}},
		{"BestIn", func(x a) ([]any, api.Errno) {
			b, d, e := paragraph.BestIn(x.f, x.r, x.words, len(x.breaks))
			return results(e, b, d)
		}},
		{"Fewest", func(x a) ([]any, api.Errno) { r, e := paragraph.Fewest(x.f, x.r, x.words); return results(e, r) }},
		{"Greedy", func(x a) ([]any, api.Errno) { r, e := paragraph.Greedy(x.f, x.r, x.words); return results(e, r) }},
		{"Set", func(x a) ([]any, api.Errno) {
			l, n, e := paragraph.Set(x.f, x.counts, x.r, x.words)
			return results(e, l, n)
		}},
		{"SetAt", func(x a) ([]any, api.Errno) {
			l, n, e := paragraph.SetAt(x.f, x.counts, x.r, x.words, x.breaks)
			return results(e, l, n)
		}},
	}
}

// wordsCalls is the functions that take a fount and words, but no rules; Lacks takes a case between.
func wordsCalls() []call {
	type a = arguments
	return []call{
		{"Places", func(x a) ([]any, api.Errno) { r, e := paragraph.Places(x.f, x.words); return results(e, r) }},
		{"Lacks", func(x a) ([]any, api.Errno) {
			r, e := paragraph.Lacks(x.f, x.counts, x.words)
			return results(e, r)
		}},
		{"Broken", func(x a) ([]any, api.Errno) {
			r, e := paragraph.Broken(x.f, x.words, x.breaks)
			return results(e, r)
		}},
	}
}

// casesCalls is the functions of both that take a case.
func casesCalls() []call {
	return slices.DeleteFunc(append(rulesCalls(), wordsCalls()...), func(c call) bool {
		return c.name != "Set" && c.name != "SetAt" && c.name != "Lacks"
	})
}

// wrongArguments has whatever is wrong behind a fount.
func wrongArguments() arguments {
	return arguments{
		f:      roman(),
		counts: []int{1, 1, 1, 1, -1, 1},
		words:  []api.ParagraphWord{word()},
		at:     [2]int{-1, -1},
		breaks: []int{-1},
		labels: []int{-1},
	}
}

func wantError(t *testing.T, c call, x arguments, what string, want api.Errno) {
	t.Helper()
	if r, e := c.do(x); e != want || !isZero(r) {
		t.Errorf("%s, %s: %v, error %d, want %d", c.name, what, r, e, want)
	}
}

// P1, P4.1 to P4.6: the errors of the fount come first, then those of a case, of the rules and of
// the words.
func TestOrderOfErrors(t *testing.T) {
	for _, c := range append(rulesCalls(), wordsCalls()...) {
		for want, f := range badFounts() {
			x := wrongArguments()
			x.f = f
			wantError(t, c, x, "a wrong fount", want)
		}
	}
	for _, c := range casesCalls() {
		x := wrongArguments()
		wantError(t, c, x, "a case with -1", api.ErrRange)
		x.counts = same(1000001, 6)
		wantError(t, c, x, "a case with too many", api.ErrRange)
		x.counts = same(-1, 5)
		wantError(t, c, x, "a case of five", api.ErrShape)
	}
	for _, c := range rulesCalls() {
		for _, w := range wrongRules() {
			x := wrongArguments()
			x.counts, x.r = same(0, 6), w.r
			wantError(t, c, x, w.what, w.e)
		}
		for _, w := range wrongWords() {
			x := wrongArguments()
			x.counts, x.r, x.words = same(0, 6), rules(), w.words
			wantError(t, c, x, w.what, w.e)
		}
	}
	for _, c := range wordsCalls() {
		for _, w := range wrongWords() {
			x := wrongArguments()
			x.counts, x.words = same(0, 6), w.words
			wantError(t, c, x, w.what, w.e)
		}
	}
}
