package press_test

import (
	"math/big"
	"strings"
	"testing"

	"tympan/api"
	"tympan/press"
)

// wrongRun is a run with its error.
type wrongRun struct {
	what string
	x    api.PressRun
	e    api.Errno
}

func wrongRuns() []wrongRun {
	type run = *api.PressRun
	with := func(what string, e api.Errno, change func(x run)) wrongRun {
		return wrongRun{what, changed(poster(), change), e}
	}
	return []wrongRun{
		with("no job", api.ErrName, func(x run) { x.Job = "" }),
		with("a job of 13 letters", api.ErrName, func(x run) { x.Job = "abcdefghijklm" }),
		with("a job that begins with a digit", api.ErrName, func(x run) { x.Job = "1a" }),
		with("a job that begins with a hyphen", api.ErrName, func(x run) { x.Job = "-a" }),
		with("a job of two words", api.ErrName, func(x run) { x.Job = "a b" }),
		with("a job with a point", api.ErrName, func(x run) { x.Job = "a." }),
		with("a job with another letter", api.ErrName, func(x run) { x.Job = "ä" }),
		with("a job with another byte", api.ErrName, func(x run) { x.Job = "a\x00" }),
		with("a day too early", api.ErrRange, func(x run) { x.Day = -1 }),
		with("a day too late", api.ErrRange, func(x run) { x.Day = 100001 }),
		with("none wanted", api.ErrRange, func(x run) { x.Wanted = 0 }),
		with("too many wanted", api.ErrRange, func(x run) { x.Wanted, x.Given = 2001, 2001 }),
		with("too few given", api.ErrRange, func(x run) { x.Given = 99 }),
		with("too many given", api.ErrRange, func(x run) { x.Given = 2001 }),
		with("very many given", api.ErrRange, func(x run) { x.Given = great }),
		with("no colours", api.ErrShape, func(x run) { x.Colours = nil }),
		with("seven colours", api.ErrLarge, func(x run) { x.Colours = strings.Split("a b c d e f g", " ") }),
		with("a colour without a name", api.ErrName, func(x run) { x.Colours = []string{"red", ""} }),
		with("a colour of 13 letters", api.ErrName, func(x run) { x.Colours = []string{"abcdefghijklm"} }),
		with("a colour that begins with a digit", api.ErrName, func(x run) { x.Colours = []string{"red", "2nd", "red"} }),
		with("a colour twice", api.ErrExists, func(x run) { x.Colours = []string{"red", "blue", "red", "2nd"} }),
		with("make-ready below 0", api.ErrRange, func(x run) { x.Ready = -1 }),
		with("much make-ready", api.ErrRange, func(x run) { x.Ready = 10001 }),
		with("no impressions", api.ErrRange, func(x run) { x.Hour = 0 }),
		with("many impressions", api.ErrRange, func(x run) { x.Hour = 10001 }),
		with("the job, then a number", api.ErrName, func(x run) { x.Job, x.Day = "", -1 }),
		with("a number, then no colours", api.ErrRange, func(x run) { x.Given, x.Colours = 1, nil }),
		with("no colours, then a number", api.ErrShape, func(x run) { x.Colours, x.Hour = nil, 0 }),
		with("seven colours, then names", api.ErrLarge, func(x run) { x.Colours = strings.Split("1 1 1 1 1 1 1", " ") }),
		with("a colour, then a number", api.ErrExists, func(x run) { x.Colours, x.Ready = []string{"red", "red"}, -1 }),
	}
}

func rightRuns() []api.PressRun {
	six := []string{"a", "A", "a1", "a-", "b", "abcdefghij-9"}
	return []api.PressRun{
		poster(),
		{Job: "p", Wanted: 1, Given: 1, Colours: []string{"p"}, Hour: 1},
		{Job: "Abcdefghi-09", Day: 100000, Wanted: 2000, Given: 2000, Colours: six, Ready: 10000, Hour: 10000},
		{Job: "z-", Wanted: 1, Given: 2000, Colours: six[:1], Ready: 1, Hour: 7},
	}
}

// P9.1: right runs and wrong ones.
func TestCheckRun(t *testing.T) {
	for _, x := range rightRuns() {
		want(t, "CheckRun", x, press.CheckRun(x), x, api.OK)
	}
	for _, w := range wrongRuns() {
		want(t, "CheckRun, "+w.what, 0, press.CheckRun(w.x), 0, w.e)
		n, e := press.RunMinutes(w.x)
		want(t, "RunMinutes, "+w.what, n, e, 0, w.e)
		n, e = press.Estimate(w.x, api.PressPrices{Sheet: -1})
		want(t, "Estimate, "+w.what, n, e, 0, w.e)
	}
}

// P9.1, P9.5: the bytes of names, of jobs and of colours.
func TestNames(t *testing.T) {
	const letters = "abcdefghijklmnopqrstuvwxyzABCDEFGHIJKLMNOPQRSTUVWXYZ"
	for b := range 256 {
		for _, name := range []string{string([]byte{byte(b)}), string([]byte{'a', byte(b)})} {
			first, rest := name[:1], name[1:]
			wanted := api.ErrName
			if strings.Contains(letters, first) && (rest == "" || strings.Contains(letters+"0123456789-", rest)) {
				wanted = api.OK
			}
			run := changed(poster(), func(x *api.PressRun) { x.Job = name })
			want(t, "CheckRun of the job "+name, 0, press.CheckRun(run), 0, wanted)
			run = changed(poster(), func(x *api.PressRun) { x.Colours = []string{name} })
			want(t, "CheckRun of the colour "+name, 0, press.CheckRun(run), 0, wanted)
			want(t, "CheckJobs of "+name, 0, press.CheckJobs([]api.PressJob{job(name, 0, 1, 0)}), 0, wanted)
		}
	}
}

// P9.1: minutes and estimates of the chapter's example, and at the limits.
func TestMinutesAndEstimates(t *testing.T) {
	most := api.PressPrices{Sheet: 1000000, Colour: 1000000, Hour: 1000000}
	slow := changed(rightRuns()[2], func(x *api.PressRun) { x.Hour = 1 })
	for _, c := range []struct {
		what           string
		x              api.PressRun
		p              api.PressPrices
		minutes, cents int
	}{
		{"example 1", poster(), api.PressPrices{Sheet: 5, Colour: 100, Hour: 3000}, 82, 4850},
		{"without prices", poster(), api.PressPrices{}, 82, 0},
		{"sheets alone", poster(), api.PressPrices{Sheet: 1}, 82, 110},
		{"colours alone", poster(), api.PressPrices{Colour: 1}, 82, 2},
		{"hours alone", poster(), api.PressPrices{Hour: 60}, 82, 82},
		{"cents rounded up", poster(), api.PressPrices{Hour: 1}, 82, 2},
		{"a sheet an hour", api.PressRun{Job: "p", Wanted: 1, Given: 1, Colours: []string{"p"}, Hour: 1}, api.PressPrices{Hour: 1}, 60, 1},
		{"the slowest run", slow, most, 780000, 2000*1000000 + 6*1000000 + 13000*1000000},
		// 3 colours of 60 * 5 / 7 minutes: 42.8 rounded up are 43, three times, but 128.6 are 129.
		{"minutes rounded once", api.PressRun{Job: "p", Wanted: 5, Given: 5, Colours: []string{"a", "b", "c"}, Ready: 10, Hour: 7}, api.PressPrices{Hour: 20}, 159, 53},
		{"two colours of half a minute", api.PressRun{Job: "p", Wanted: 1, Given: 1, Colours: []string{"a", "b"}, Hour: 120}, api.PressPrices{Hour: 61}, 1, 2},
		{"one of half a minute", api.PressRun{Job: "p", Wanted: 1, Given: 1, Colours: []string{"a"}, Hour: 120}, api.PressPrices{Hour: 60}, 1, 1},
	} {
		n, e := press.RunMinutes(c.x)
		want(t, "RunMinutes, "+c.what, n, e, c.minutes, api.OK)
		n, e = press.Estimate(c.x, c.p)
		want(t, "Estimate, "+c.what, n, e, c.cents, api.OK)
	}
	for _, p := range []api.PressPrices{{Sheet: -1}, {Sheet: 1000001}, {Colour: -1}, {Colour: 1000001}, {Hour: -1}, {Hour: 1000001}, {Sheet: small, Colour: great}} {
		n, e := press.Estimate(poster(), p)
		want(t, "Estimate of wrong prices", n, e, 0, api.ErrRange)
	}
}

// roundedUp is the least whole number that is not less than a fraction.
func roundedUp(num, den int) int {
	r := big.NewRat(int64(num), int64(den))
	q := new(big.Int).Div(r.Num(), r.Denom())
	if new(big.Rat).SetInt(q).Cmp(r) < 0 {
		q.Add(q, big.NewInt(1))
	}
	return int(q.Int64())
}

// P9.1: minutes and estimates of made runs, by the definition.
func TestMadeMinutesAndEstimates(t *testing.T) {
	m := newMaker(1)
	for range 2000 {
		x, p := m.run(), m.prices()
		minutes := len(x.Colours)*x.Ready + roundedUp(60*x.Given*len(x.Colours), x.Hour)
		n, e := press.RunMinutes(x)
		want(t, "RunMinutes", n, e, minutes, api.OK)
		n, e = press.Estimate(x, p)
		want(t, "Estimate", n, e, x.Given*p.Sheet+len(x.Colours)*p.Colour+roundedUp(minutes*p.Hour, 60), api.OK)
	}
}

// P9.10: more sheets never make a run cheaper, nor shorter.
func TestMoreSheetsAreNotCheaper(t *testing.T) {
	m := newMaker(2)
	for range 300 {
		x, p := m.run(), m.prices()
		for x.Given < min(x.Wanted+100, 2000) {
			y := changed(x, func(y *api.PressRun) { y.Given++ })
			less, e := press.Estimate(x, p)
			more, other := press.Estimate(y, p)
			if e != api.OK || other != api.OK || more < less {
				t.Fatalf("%v for %v: %d, error %d; with a sheet more %d, error %d", x, p, less, e, more, other)
			}
			x = y
		}
	}
}
