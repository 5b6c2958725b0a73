package shop_test

import (
	"fmt"
	"slices"
	"strconv"
	"strings"
	"testing"

	"tympan/api"
	"tympan/shop"
)

// askedLog is a log of the plain shop with the pages p and s (standing), q and t (locked in f and g),
// and r (distributed), of which p, q and r have been printed.
func askedLog() []string {
	return append(readingLog(), "print f 7", "again r", "lock h r p", "print h 100", "unlock h", "distribute r", "set t a b", "lock g t", "set s c a")
}

// P10.5: questions, and their answers.
func TestQuery(t *testing.T) {
	wanted := map[string]string{
		"":                                      "p q r t s",
		"state standing":                        "p s",
		"state locked":                          "q t",
		"state distributed":                     "r",
		"forme f":                               "q",
		"forme g":                               "t",
		"forme h":                               "",
		"forme p":                               "",
		"word a":                                "q t s",
		"word c":                                "r s",
		"word aaaa":                             "p",
		"word aaa":                              "",
		"word x":                                "",
		"word ":                                 "",
		"word #":                                "",
		"word \x00":                             "",
		"word state":                            "",
		"printed 0":                             "p q r t s",
		"printed 1":                             "p q r",
		"printed 7":                             "p q r",
		"printed 8":                             "p r",
		"printed 100":                           "p r",
		"printed 101":                           "",
		"printed 9999999":                       "",
		"word a state locked":                   "q t",
		"state locked word a":                   "q t",
		"printed 7 word a":                      "q",
		"word  state locked":                    "",
		"word word printed 0":                   "",
		"state standing printed 1":              "p",
		"forme f state standing":                "",
		"state locked forme f":                  "q",
		"word b forme g printed 0":              "t",
		"word " + letters(400):                  "",
		"state locked forme f word a printed 7": "q",
		"state locked forme f word a printed 8": "",
	}
	for q, names := range wanted {
		got, e := shop.Query(plain(), askedLog(), q)
		want(t, "Query of "+q, got, e, strings.Fields(names), api.OK)
		got, e = shop.Query(plain(), nil, q)
		want(t, "Query in the beginning of "+q, got, e, nil, api.OK)
	}
}

// P10.5: questions that are none.
func TestErrorsOfQuery(t *testing.T) {
	wanted := map[string]api.Errno{
		" ":                             api.ErrSyntax,
		"state":                         api.ErrSyntax,
		"forme":                         api.ErrSyntax,
		"word":                          api.ErrSyntax,
		"printed":                       api.ErrSyntax,
		"mend":                          api.ErrSyntax,
		"mend p":                        api.ErrSyntax,
		"State locked":                  api.ErrSyntax,
		" state locked":                 api.ErrSyntax,
		"state locked ":                 api.ErrSyntax,
		"state  locked":                 api.ErrSyntax,
		"state locked  word a":          api.ErrSyntax,
		"state locked word":             api.ErrSyntax,
		"state locked word a forme":     api.ErrSyntax,
		"state locked mend a":           api.ErrSyntax,
		"state ":                        api.ErrSyntax,
		"state Locked":                  api.ErrSyntax,
		"state locked\n":                api.ErrSyntax,
		"state dead":                    api.ErrSyntax,
		"printed ":                      api.ErrSyntax,
		"printed x":                     api.ErrSyntax,
		"printed -1":                    api.ErrSyntax,
		"printed -0":                    api.ErrSyntax,
		"printed 07":                    api.ErrSyntax,
		"printed +7":                    api.ErrSyntax,
		"printed 10000000":              api.ErrSyntax,
		"printed 99999999999999999999":  api.ErrSyntax,
		"forme ":                        api.ErrName,
		"forme 1":                       api.ErrName,
		"forme abcdefghijklm":           api.ErrName,
		"state locked state locked":     api.ErrExists,
		"state locked state mend":       api.ErrExists,
		"word a word b":                 api.ErrExists,
		"word  word ":                   api.ErrExists,
		"printed 1 printed x":           api.ErrExists,
		"forme f forme ":                api.ErrExists,
		"word a state locked word b":    api.ErrExists,
		"state locked state":            api.ErrSyntax,
		"word a word":                   api.ErrSyntax,
		"state mend state locked":       api.ErrSyntax,
		"forme 1 mend a":                api.ErrName,
		"mend a forme 1":                api.ErrSyntax,
		"forme 1 forme f":               api.ErrName,
		"printed x forme 1":             api.ErrSyntax,
		"word a forme 1 printed x":      api.ErrName,
		"state locked word a state x":   api.ErrExists,
		"word a printed 1 forme f mend": api.ErrSyntax,
	}
	for q, e := range wanted {
		for _, log := range [][]string{nil, askedLog()} {
			got, is := shop.Query(plain(), log, q)
			want(t, "Query of "+q, got, is, nil, e)
		}
	}
}

// P10.5: made logs and questions, against their words.
func TestMadeQueries(t *testing.T) {
	for seed := range int64(40) {
		m := newMaker(2000 + seed)
		log, at := madeLog(t, m, rich(), 50, seen{})
		for range 20 {
			state := oneOf(m, "standing", "locked", "distributed")
			forme, word, sheets := m.forme(), m.word(), m.Intn(200)
			conditions := []string{"state " + state, "forme " + forme, "word " + word, "printed " + strconv.Itoa(sheets)}
			m.Shuffle(len(conditions), func(i, k int) { conditions[i], conditions[k] = conditions[k], conditions[i] })
			conditions = conditions[:m.Intn(4)]
			var names []string
			for _, p := range at.pages {
				is := map[string]bool{
					"standing":    p.Standing && p.Forme == "",
					"locked":      p.Standing && p.Forme != "",
					"distributed": !p.Standing,
				}
				holds := map[string]bool{"state": is[state], "forme": p.Forme == forme, "word": slices.Contains(p.Words, word), "printed": p.Printed >= sheets}
				all := true
				for _, c := range conditions {
					first, _, _ := strings.Cut(c, " ")
					all = all && holds[first]
				}
				if all {
					names = append(names, p.Name)
				}
			}
			q := spread(conditions...)
			got, e := shop.Query(rich(), log, q)
			want(t, fmt.Sprintf("Query of %q behind %q", q, log), got, e, names, api.OK)
		}
	}
}

// P10.5: statistics.
func TestCounts(t *testing.T) {
	for _, x := range []struct {
		log    []string
		wanted api.ShopCounts
	}{
		{nil, api.ShopCounts{}},
		{[]string{"cast a 5"}, api.ShopCounts{}},
		{readingLog(), api.ShopCounts{Pages: 3, Standing: 2, Locked: 1, Lines: 3, Sorts: 30, Formes: 1}},
		{askedLog(), api.ShopCounts{Pages: 5, Standing: 4, Locked: 2, Lines: 5, Sorts: 50, Printed: 207, Formes: 2}},
		{append(askedLog(), "unlock g", "unlock f", "distribute t", "distribute p"), api.ShopCounts{Pages: 5, Standing: 2, Lines: 2, Sorts: 20, Printed: 207}},
	} {
		got, e := shop.Counts(plain(), x.log)
		want(t, fmt.Sprintf("Counts behind %q", x.log), got, e, x.wanted, api.OK)
	}
}

// P10.5: cents of pages.
func TestInvoice(t *testing.T) {
	cents, sum, e := shop.Invoice(example(), exampleLog(), api.ShopPrices{Sort: 2, Sheet: 3})
	want(t, "Invoice of the example", cents, e, []int{312}, api.OK)
	want(t, "the sum of the example", sum, e, 312, api.OK)
	// p has been set once, q once, r twice, t and s once.
	for _, x := range []struct {
		p     api.ShopPrices
		cents []int
		sum   int
		e     api.Errno
	}{
		{api.ShopPrices{}, []int{0, 0, 0, 0, 0}, 0, api.OK},
		{api.ShopPrices{Sort: 1}, []int{20, 10, 20, 10, 10}, 70, api.OK},
		{api.ShopPrices{Sheet: 1}, []int{100, 7, 100, 0, 0}, 207, api.OK},
		{api.ShopPrices{Sort: 3, Sheet: 2}, []int{260, 44, 260, 30, 30}, 624, api.OK},
		{api.ShopPrices{Sort: 1000000, Sheet: 1000000}, []int{120000000, 17000000, 120000000, 10000000, 10000000}, 277000000, api.OK},
		{api.ShopPrices{Sort: -1, Sheet: 1}, nil, 0, api.ErrRange},
		{api.ShopPrices{Sort: 1, Sheet: -1}, nil, 0, api.ErrRange},
		{api.ShopPrices{Sort: 1000001, Sheet: 1}, nil, 0, api.ErrRange},
		{api.ShopPrices{Sort: 1, Sheet: 1000001}, nil, 0, api.ErrRange},
		{api.ShopPrices{Sort: great, Sheet: small}, nil, 0, api.ErrRange},
	} {
		cents, sum, e := shop.Invoice(plain(), askedLog(), x.p)
		want(t, fmt.Sprint("Invoice of ", x.p), cents, e, x.cents, x.e)
		want(t, fmt.Sprint("the sum of ", x.p), sum, e, x.sum, x.e)
	}
	cents, sum, e = shop.Invoice(plain(), nil, api.ShopPrices{Sort: 1, Sheet: 1})
	want(t, "Invoice in the beginning", cents, e, nil, api.OK)
	want(t, "the sum in the beginning", sum, e, 0, api.OK)
}
