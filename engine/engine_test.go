package engine_test

import (
	"math"
	"reflect"
	"slices"
	"strings"
	"testing"

	"paymaster/api"
	"paymaster/book"
	"paymaster/engine"
	"paymaster/master"
	"paymaster/result"
	"paymaster/tree"
	"paymaster/value"
	"paymaster/withhold"
)

const (
	jan  = 24276 // 2023-01
	feb  = jan + 1
	mar  = jan + 2
	apr  = jan + 3
	dec  = jan + 11
	next = jan + 12 // 2024-01
	most = 1 << 40  // of an input, a claim, and what is protected
)

// three is a text by which base, bonus and the days, in whole units, are the three sums.
const three = "earn pay = base; let day = 1.00; pretax plan = bonus; post meal = days * day;"

// steps has a tax of two steps, and funds: one with a ceiling that a year reaches, and one without.
func steps() withhold.Scheme {
	return withhold.Scheme{
		Rows:  []api.Row{{Above: 0, Rate: 1000}, {Above: 250000, Rate: 3000}},
		Funds: []withhold.Fund{{Rate: 500, Employer: 700, Ceiling: 150000}, {Rate: 133, Employer: 0, Ceiling: api.Most}},
	}
}

// flat takes a tenth of all.
func flat() withhold.Scheme {
	return withhold.Scheme{Rows: []api.Row{{Above: 0, Rate: 1000}}}
}

func record(from int, base, bonus, days int) master.Record {
	return master.Record{From: from, Centre: from % 1000, In: value.Inputs{Base: base, Bonus: bonus, Days: days}}
}

func claim(creditor, priority, most, balance int) api.Order {
	return api.Order{Creditor: creditor, Priority: priority, Claim: most, Balance: balance}
}

func sums(gross, pretax, post int) result.Sums {
	return result.Sums{Gross: gross, Pretax: pretax, Post: post}
}

// started is an engine of those rules and that scheme, with half of somebody's pay protected.
func started(t *testing.T, text string, s withhold.Scheme) *held {
	t.Helper()
	h := hold(t)
	if at, e := h.rules(text); at != 0 || e != api.OK {
		t.Fatalf("Rules(%q): %d, %d", text, at, e)
	}
	h.fine(h.scheme(s, 50000))
	return h
}

func (h *held) fine(l ...api.Errno) {
	h.t.Helper()
	for _, e := range l {
		if e != api.OK {
			h.t.Fatalf("error %d", e)
		}
	}
}

// runs are run, each with so many entries.
func (h *held) runs(many int, periods ...int) {
	h.t.Helper()
	for _, period := range periods {
		if n, e := h.run(period); n != many || e != api.OK {
			h.t.Fatalf("Run(%d): %d, %d, not %d", period, n, e, many)
		}
	}
}

func (h *held) runFails(want api.Errno, periods ...int) {
	h.t.Helper()
	for _, period := range periods {
		if n, e := h.run(period); n != 0 || e != want {
			h.t.Fatalf("Run(%d): %d, %d, not %d", period, n, e, want)
		}
	}
}

// takesBack: the last run is taken back, with so many entries.
func (h *held) takesBack(many int) {
	h.t.Helper()
	if n, e := h.reverse(); n != many || e != api.OK {
		h.t.Fatalf("Reverse: %d, %d, not %d", n, e, many)
	}
}

func (h *held) reverseFails(want api.Errno) {
	h.t.Helper()
	if n, e := h.reverse(); n != 0 || e != want {
		h.t.Fatalf("Reverse: %d, %d, not %d", n, e, want)
	}
}

func (h *held) closes(want api.Errno, years ...int) {
	h.t.Helper()
	for _, year := range years {
		if e := h.close(year); e != want {
			h.t.Fatalf("Close(%d): %d, not %d", year, e, want)
		}
	}
}

// entry is the last one of the book.
func (h *held) entry() book.Entry {
	h.t.Helper()
	b := h.g.Book()
	if len(b.Entries) == 0 {
		h.t.Fatal("the book is empty")
	}
	return b.Entries[len(b.Entries)-1]
}

func (h *held) lastIs(period int, entries int) {
	h.t.Helper()
	if n, l := h.g.Last(), len(h.g.Book().Entries); n != period || l != entries {
		h.t.Fatalf("Last %d, and %d entries, not %d, and %d", n, l, period, entries)
	}
}

func (h *held) yearIs(id int, year int, taxable, base, tax int) {
	h.t.Helper()
	if y := book.Year(h.g.Book(), id, year, 0); y.Taxable != taxable || y.Base != base || y.Tax != tax {
		h.t.Fatalf("the year %d of %d: %+v, not %d, %d, %d", year, id, y, taxable, base, tax)
	}
}

// P19.1, P19.2, P19.3: a new engine has nothing; the chapter's example.
func TestNew(t *testing.T) {
	h := hold(t)
	if b, m, p := h.g.Book(), h.g.Master(), h.g.Plan(); len(b.Entries) != 0 || len(m.People) != 0 || !samePlan(p, result.Plan{}) || h.g.Last() != 0 {
		t.Errorf("%v, %v, %v, %d", b, m, p, h.g.Last())
	}
	all := []int{math.MinInt, -1, 0, 1, jan, 35999, 36000, api.Most}
	h.runFails(api.ErrNone, all...)
	h.reverseFails(api.ErrNone)
	h.fine(h.hire(7, record(jan, 100000, 0, 0)))
	h.runFails(api.ErrNone, all...)
	h.closes(api.OK, 2023)
	h.runFails(api.ErrNone, all...)
	h.reverseFails(api.ErrNone)
	h.lastIs(0, 0)
}

// P19.2: ErrNone, as long as there are no rules or no scheme, in whatever order they come; and not any more behind an error of either.
func TestRulesAndScheme(t *testing.T) {
	h := hold(t)
	h.rules("earn a = ;")
	h.fine(h.scheme(flat(), 0))
	h.runFails(api.ErrNone, jan, 0)
	h.rules("earn a = base")
	h.rules("earn a = hours;")
	h.runFails(api.ErrNone, jan, 0)
	h.rules("")
	h.runFails(api.ErrArg, 0)
	h.runs(0, jan)

	h = hold(t)
	h.rules(three)
	h.runFails(api.ErrNone, jan, 0)
	h.scheme(withhold.Scheme{}, 0)
	h.scheme(flat(), -1)
	h.runFails(api.ErrNone, jan, 0)
	h.fine(h.scheme(flat(), 0))
	h.runFails(api.ErrArg, 0)
	h.runs(0, jan)
	h.rules("earn a = ;")
	h.scheme(withhold.Scheme{}, 0)
	h.runs(0, feb)
}

// P19.1: Rules tells 0 and OK, and the rules are that text's, in place of those that were there; a text of none has rules, too.
func TestRules(t *testing.T) {
	h := started(t, three, flat())
	h.fine(h.hire(7, record(jan, 100000, 2000, 3)))
	for i, text := range []string{three, "let a = b; let b = 1; earn c = base * a;", "", "  \n", "earn a = bonus;", three} {
		if at, e := h.rules(text); at != 0 || e != api.OK {
			t.Fatalf("Rules(%q): %d, %d", text, at, e)
		}
		p, _, _ := tree.Parse(text)
		if q := h.g.Plan().P; !slices.Equal(p.Rules, q.Rules) || !slices.Equal(p.Exprs, q.Exprs) {
			t.Errorf("Plan behind Rules(%q): %v", text, q)
		}
		h.runs(1, jan+i)
		want := []result.Sums{sums(100000, 2000, 300), sums(100000, 0, 0), {}, {}, sums(2000, 0, 0), sums(100000, 2000, 300)}[i]
		if r := h.entry().R; r.Raw != want || len(r.Lines) != strings.Count(text, ";")-strings.Count(text, "let") {
			t.Errorf("by %q: %+v", text, r)
		}
	}
	h.yearIs(7, 2023, 6*98000, 6*100000, 6*9800)
}

// P19.1: errors of layer 8, with the byte, ahead of those of layer 11, with the rule; and nothing has changed.
func TestRulesErrors(t *testing.T) {
	many := strings.Repeat("let a = 1;", 60)
	deep := strings.Repeat("(", 20)
	for text, want := range map[string][2]int{
		"?":                                    {0, int(api.ErrForm)},
		"earn a = base; !":                     {15, int(api.ErrForm)},
		"let":                                  {3, int(api.ErrForm)},
		"earn x = ;":                           {9, int(api.ErrForm)},
		"earn x = base":                        {13, int(api.ErrForm)},
		"let base = base; let a = 1.5;":        {25, int(api.ErrForm)},
		many + "let b = 1;":                    {600, int(api.ErrLong)},
		"let a = " + deep + "1;":               {28, int(api.ErrLong)},
		"let abcdefghijklm = 1;":               {4, int(api.ErrForm)},
		"earn x = lead;":                       {0, int(api.ErrType)},
		"let a = 1; earn b = base; post c=a;":  {2, int(api.ErrType)},
		"let a = 1; let b = base + hours;":     {1, int(api.ErrType)},
		"earn a = base; earn b = nobody;":      {1, int(api.ErrNone)},
		"earn a = base; let b = 1; let a = 2;": {2, int(api.ErrThere)},
		"let lead = 1;":                        {0, int(api.ErrThere)},
		"let a = 1; let b = c; let c = b;":     {1, int(api.ErrCycle)},
		"earn a = a;":                          {0, int(api.ErrCycle)},
		many:                                   {1, int(api.ErrThere)},
	} {
		if _, e := hold(t).rules(text); int(e) != want[1] {
			t.Errorf("Rules(%.80q) of a new one: %d, not %d", text, e, want[1])
		}
		h := started(t, "earn pay = base;", flat())
		h.fine(h.hire(7, record(jan, 100000, 0, 0)))
		if at, e := h.rules(text); at != want[0] || int(e) != want[1] {
			t.Errorf("Rules(%.80q): %d, %d, not %d", text, at, e, want)
		}
		h.runs(1, jan)
		if r := h.entry().R; r.Raw.Gross != 100000 {
			t.Errorf("behind Rules(%.80q): %+v", text, r)
		}
	}
}

// P19.1: Scheme takes what is right, in place of what was there, and ErrArg of all else changes nothing.
func TestScheme(t *testing.T) {
	h := started(t, "earn pay = base;", flat())
	h.fine(h.hire(7, record(jan, 100000, 0, 0)), h.claim(7, claim(1, 1, most, most)))
	rows := func(n int) (l []api.Row) {
		for i := range n {
			l = append(l, api.Row{Above: 100 * i, Rate: 100})
		}
		return l
	}
	fund := withhold.Fund{Rate: 100, Employer: 100, Ceiling: 100}
	right := flat().Rows
	for _, s := range []withhold.Scheme{
		{}, {Rows: []api.Row{}}, {Rows: rows(13)}, {Rows: []api.Row{{Above: 1, Rate: 1}}}, {Rows: []api.Row{{Above: 0, Rate: 10001}}},
		{Rows: []api.Row{{Above: 0, Rate: -1}}}, {Rows: []api.Row{{Above: 0}, {Above: 0}}}, {Rows: []api.Row{{Above: 0}, {Above: 5}, {Above: 4}}},
		{Rows: right, Funds: []withhold.Fund{fund, fund, fund, fund, fund, fund, fund}}, {Rows: right, Funds: []withhold.Fund{{Rate: -1}}},
		{Rows: right, Funds: []withhold.Fund{{Rate: 10001}}}, {Rows: right, Funds: []withhold.Fund{fund, {Employer: 10001}}}, {Rows: right, Funds: []withhold.Fund{{Ceiling: -1}}},
		{Funds: []withhold.Fund{fund}},
	} {
		for _, protected := range []int{0, 50000, -1, most + 1} {
			if e := h.scheme(s, protected); e != api.ErrArg {
				t.Errorf("Scheme(%v, %d): %d", s, protected, e)
			}
		}
	}
	for _, protected := range []int{math.MinInt, -1, most + 1, api.Most} {
		if e := h.scheme(steps(), protected); e != api.ErrArg {
			t.Errorf("Scheme of %d protected: %d", protected, e)
		}
	}
	h.runs(1, jan)
	if r := h.entry().R; r.Tax != 10000 || len(r.Paid) != 0 || r.Net != 50000 || r.Garnished[0] != 40000 {
		t.Errorf("behind errors: %+v", r)
	}
	h.fine(h.scheme(steps(), most))
	h.runs(1, feb)
	if r := h.entry().R; r.Tax != 10000 || !slices.Equal(r.Paid, []int{7500, 2660}) || r.Garnished[0] != 0 || r.Net != 79840 {
		t.Errorf("by steps: %+v", r)
	}
	h.fine(h.scheme(withhold.Scheme{Rows: rows(12), Funds: []withhold.Fund{fund, fund, fund, fund, fund, fund}}, 0))
	h.runs(1, mar)
	if p := h.g.Plan(); len(p.S.Rows) != 12 || len(p.S.Funds) != 6 || p.Protected != 0 || len(h.entry().R.Paid) != 6 {
		t.Errorf("Plan: %+v", p)
	}
}

// P19.1: Hire, Change, Leave and Claim are layer 13's, its errors, too, and with one nothing has changed.
func TestPeople(t *testing.T) {
	h := hold(t)
	h.fine(h.hire(7, record(jan, 1, 2, 3)), h.hire(3, record(mar, 4, 5, 6)), h.change(7, record(mar, 7, 8, 9)), h.change(7, record(feb, 1, 1, 1)), h.leave(7, dec), h.claim(7, claim(40, 1, 50, 80)))
	want := []master.Person{
		{Id: 3, Hired: mar, Records: []master.Record{record(mar, 4, 5, 6)}},
		{Id: 7, Hired: jan, Gone: dec, Records: []master.Record{record(jan, 1, 2, 3), record(feb, 1, 1, 1), record(mar, 7, 8, 9)}, Orders: []api.Order{claim(40, 1, 50, 80)}},
	}
	if l := h.g.Master().People; !slices.EqualFunc(l, want, samePerson) {
		t.Fatalf("Master: %+v", l)
	}
	for what, e := range map[string][2]api.Errno{
		"an Id of 0":            {h.hire(0, record(jan, 1, 2, 3)), api.ErrArg},
		"one too great":         {h.hire(1<<31, record(jan, 1, 2, 3)), api.ErrArg},
		"no period":             {h.hire(8, record(22799, 1, 2, 3)), api.ErrArg},
		"one too late":          {h.hire(8, record(36000, 1, 2, 3)), api.ErrArg},
		"too much":              {h.hire(8, record(jan, most+1, 2, 3)), api.ErrArg},
		"no centre":             {h.hire(8, master.Record{From: jan, Centre: 1000}), api.ErrArg},
		"one who is there":      {h.hire(7, record(jan, 9, 9, 9)), api.ErrThere},
		"a change of nobody":    {h.change(8, record(jan, 1, 2, 3)), api.ErrNone},
		"a change below 0":      {h.change(7, record(jan, -1, 2, 3)), api.ErrArg},
		"a change ahead":        {h.change(7, record(jan-1, 1, 2, 3)), api.ErrArg},
		"nobody leaves":         {h.leave(8, dec), api.ErrNone},
		"they leave as hired":   {h.leave(7, jan), api.ErrArg},
		"they leave never":      {h.leave(7, 36000), api.ErrArg},
		"a claim on nobody":     {h.claim(8, claim(41, 1, 50, 80)), api.ErrNone},
		"a claim of nobody":     {h.claim(7, claim(0, 1, 50, 80)), api.ErrArg},
		"a claim of nothing":    {h.claim(7, claim(41, 1, 0, 80)), api.ErrArg},
		"a claim that is there": {h.claim(7, claim(40, 2, 51, 81)), api.ErrThere},
	} {
		if e[0] != e[1] {
			t.Errorf("%s: %d, not %d", what, e[0], e[1])
		}
	}
	if l := h.g.Master().People; !slices.EqualFunc(l, want, samePerson) {
		t.Fatalf("Master behind errors: %+v", l)
	}
}

// P19.1: at most 50 people, with at most 8 orders each; and a run of all of them, by rising Ids.
func TestMostPeople(t *testing.T) {
	h := started(t, three, steps())
	for i := range 50 {
		h.fine(h.hire(1000-i*7, record(jan+i%3, 100000+i, i, i%4)))
	}
	if e := h.hire(1001, record(jan, 1, 1, 1)); e != api.ErrLong {
		t.Errorf("the 51st: %d", e)
	}
	for i := range 8 {
		h.fine(h.claim(1000, claim(9-i, 1+i/2, 9000+i, 20000)))
	}
	if e := h.claim(1000, claim(99, 1, 1, 1)); e != api.ErrLong {
		t.Errorf("the 9th order: %d", e)
	}
	h.runs(17, jan)
	h.runs(34, feb)
	h.runs(50, mar, apr)
	ids := []int{}
	for _, e := range h.g.Book().Entries[51:101] {
		ids = append(ids, e.Id)
	}
	if !slices.IsSorted(ids) || ids[0] != 1000-49*7 || ids[49] != 1000 {
		t.Errorf("of March: %v", ids)
	}
	h.takesBack(50)
	h.takesBack(50)
	h.takesBack(34)
}

// P19.2: errors of a period in their order: no rules, no period, then a closed year, and one that is not above the last.
func TestRunErrors(t *testing.T) {
	none := []int{math.MinInt, -jan, -1, 0, 1, 1900, 2023, 22799, 36000, 1 << 40, api.Most}
	h := started(t, three, flat())
	h.runFails(api.ErrArg, none...)
	h.fine(h.hire(7, record(22800, 100000, 0, 0)))
	h.runs(1, 22800, jan)
	h.runFails(api.ErrArg, none...)
	h.runFails(api.ErrShut, jan, jan-1, jan-12, 22801, 22800)
	h.runs(1, mar)
	h.runFails(api.ErrShut, mar, feb, jan)
	h.closes(api.OK, 2023)
	h.runFails(api.ErrArg, none...)
	h.runFails(api.ErrShut, jan, mar, apr, dec, 22800)
	h.lastIs(mar, 3)
	h.runs(1, next, 35999)
	h.runFails(api.ErrShut, 35999, 35998, next)
	h.runFails(api.ErrArg, none...)
	h.closes(api.OK, 2999)
	h.runFails(api.ErrShut, 35999, next+1)
	h.runFails(api.ErrArg, none...)
	h.lastIs(35999, 5)
}

// P19.2: what a run puts down: its number, the period, the Id, the Centre of the record that counts, the result, and the Fixes.
func TestRun(t *testing.T) {
	h := started(t, "earn pay = base; post meal = 10.00;", withhold.Scheme{Rows: flat().Rows, Funds: []withhold.Fund{{Rate: 500, Employer: 700, Ceiling: 150000}}})
	h.fine(h.scheme(h.g.Plan().S, 0), h.hire(7, master.Record{From: jan, Centre: 3, In: value.Inputs{Base: 100000}}), h.claim(7, claim(40, 1, 5000, 8000)))
	h.runs(1, jan)
	want := book.Entry{Run: 1, Period: jan, Id: 7, Centre: 3, R: result.Result{
		Lines: []result.Line{{Kind: "earn", Name: "pay", Amount: 100000}, {Kind: "post", Name: "meal", Amount: 1000}},
		Raw:   sums(100000, 0, 1000), Taxable: 100000, Tax: 10000, Paid: []int{5000}, Owed: []int{7000}, Taken: 1000, Garnished: []int{5000}, Net: 79000,
	}}
	if e := h.entry(); !sameEntry(e, want) {
		t.Errorf("of January: %+v", e)
	}
	h.fine(h.change(7, master.Record{From: jan, Centre: 4, In: value.Inputs{Base: 110000}}))
	h.runs(1, feb)
	want = book.Entry{Run: 2, Period: feb, Id: 7, Centre: 4, Fixes: []book.Fix{{Period: jan, S: sums(10000, 0, 0)}}, R: result.Result{
		Lines: []result.Line{{Kind: "earn", Name: "pay", Amount: 110000}, {Kind: "post", Name: "meal", Amount: 1000}},
		Raw:   sums(110000, 0, 1000), Extra: sums(10000, 0, 0), Taxable: 120000, Tax: 12000, Paid: []int{2500}, Owed: []int{3500}, Taken: 1000, Garnished: []int{3000}, Net: 101500,
	}}
	if e := h.entry(); !sameEntry(e, want) {
		t.Errorf("of February: %+v", e)
	}
	h.yearIs(7, 2023, 220000, 220000, 22000)
	h.takesBack(1)
	h.closes(api.OK, 2023)
	h.reverseFails(api.ErrShut)
}

// P19.2, P19.4: a whole year of people who are hired, changed, leaving and owing, a month left out; and the year behind it.
func TestWholeYear(t *testing.T) {
	h := started(t, three, steps())
	h.fine(h.hire(5, record(jan-20, 90000, 1000, 2)), h.hire(2, record(jan, 30000, 0, 9)), h.hire(9, record(apr, 200000, 150000, 3)))
	h.fine(h.claim(5, claim(8, 1, 15000, 100000)), h.claim(5, claim(9, 2, 15000, 40000)), h.claim(2, claim(8, 1, 99999, 12345)))
	h.runs(2, jan)
	h.fine(h.change(5, record(jan, 95000, 500, 2)))
	h.runs(2, feb)
	h.fine(h.change(2, record(feb, 20000, 300, 0)), h.claim(9, claim(1, 1, 500, 700)))
	h.runs(3, apr) // March is left out
	h.fine(h.leave(2, apr+3), h.change(9, record(apr, 10000, 20000, 0)))
	h.runs(3, apr+1, apr+2)
	h.runs(2, apr+3, apr+4)
	h.fine(h.leave(2, dec), h.change(2, record(apr+1, 40000, 0, 0)))
	h.runs(3, apr+5, apr+6)
	h.fine(h.change(5, record(jan-20, 1, 1, 1)), h.change(5, record(mar, 0, 0, 0)), h.change(5, record(dec, 500000, 0, 0)))
	h.runs(2, dec)
	h.yearIs(5, 2023, 2*94500+500000, 2*95000+500000, 25000+(2*94500+500000-250000)*3/10)
	h.yearIs(2, 2023, 30000+2*19700+4*40000, 30000+2*20000+4*40000, 22940)
	h.closes(api.OK, 2023)
	h.fine(h.change(9, record(dec, 77, 0, 0)))
	h.runs(2, next, next+1)
	if e := h.entry(); e.Id != 9 || len(e.Fixes) != 0 || e.R.Raw.Gross != 77 || e.R.Tax != 8 {
		t.Errorf("of the next year: %+v", e)
	}
}

// P19.2: what is put right is the extra: of several months, in all three sums, above and below 0.
func TestFixesAsExtra(t *testing.T) {
	h := started(t, three, flat())
	h.fine(h.hire(7, record(jan-3, 100000, 2000, 3)))
	h.runs(1, jan-1, jan, feb, mar)
	h.fine(h.change(7, record(jan-3, 1, 1, 1)), h.change(7, record(jan, 120000, 1000, 4)), h.change(7, record(feb, 70000, 5000, 1)), h.change(7, record(mar, 100000, 2000, 3)))
	h.runs(1, apr)
	e := h.entry()
	if want := []book.Fix{{Period: jan, S: sums(20000, -1000, 100)}, {Period: feb, S: sums(-30000, 3000, -200)}}; !slices.Equal(e.Fixes, want) {
		t.Errorf("Fixes: %v", e.Fixes)
	}
	if e.R.Extra != sums(-10000, 2000, -100) || e.R.Raw != sums(100000, 2000, 300) || e.R.Taxable != 86000 || e.R.Taken != 200 {
		t.Errorf("%+v", e.R)
	}
	h.runs(1, apr+1)
	if e := h.entry(); len(e.Fixes) != 0 || e.R.Extra != (result.Sums{}) {
		t.Errorf("what is put right is put right again: %+v", e)
	}
	h.takesBack(1)
	h.takesBack(1)
	h.runs(1, apr+1)
	if e := h.entry(); len(e.Fixes) != 2 || e.R.Extra != sums(-10000, 2000, -100) {
		t.Errorf("what was taken back is put right no more: %+v", e)
	}
	h.fine(h.change(7, record(mar, 0, 0, 0)))
	h.runs(1, apr+2)
	if e := h.entry(); e.R.Net != 0 || e.R.Short != 175800 || e.R.Tax != -19600 {
		t.Errorf("more is put right than there is: %+v", e)
	}
}

// P19.2, P19.4: schemes that change between, with more funds and with fewer: the year as it is due by the last one.
func TestSchemesChange(t *testing.T) {
	h := started(t, three, flat())
	h.fine(h.hire(7, record(jan, 100000, 0, 0)), h.hire(8, record(feb, 50000, 0, 0)))
	h.runs(1, jan)
	h.fine(h.scheme(steps(), 0))
	h.runs(2, feb)
	if y := book.Year(h.g.Book(), 7, 2023, 2); y.Tax != 20000 || !slices.Equal(y.Paid, []int{7500, 2660}) || !slices.Equal(y.Owed, []int{10500, 0}) {
		t.Errorf("with two funds: %+v", y)
	}
	one := steps()
	one.Rows, one.Funds = []api.Row{{Above: 0, Rate: 500}}, one.Funds[1:]
	h.fine(h.scheme(one, 0))
	h.runs(2, mar)
	if r := h.g.Book().Entries[3].R; r.Tax != 15000-20000 || !slices.Equal(r.Paid, []int{3990 - 7500}) || !slices.Equal(r.Owed, []int{-10500}) {
		t.Errorf("with one: %+v", r)
	}
	h.fine(h.scheme(flat(), 0))
	h.runs(2, apr)
	h.fine(h.scheme(steps(), 0))
	h.runs(2, apr+1)
	h.takesBack(2)
	h.takesBack(2)
	h.runs(2, apr)
}

// P19.2, P19.4: rules that change between: the months ahead are put right by those that there are now.
func TestRulesChange(t *testing.T) {
	h := started(t, "earn pay = base;", flat())
	h.fine(h.hire(7, record(jan, 100000, 5000, 2)))
	h.runs(1, jan, feb)
	h.rules("earn pay = base; earn more = bonus; pretax plan = 10.00;")
	h.runs(1, mar)
	if e := h.entry(); len(e.Fixes) != 2 || e.Fixes[1] != (book.Fix{Period: feb, S: sums(5000, 1000, 0)}) || e.R.Extra != sums(10000, 2000, 0) {
		t.Errorf("%+v", e)
	}
	h.rules("")
	h.runs(1, apr)
	h.yearIs(7, 2023, 0, 0, 0)
	if e := h.entry(); e.R.Extra != sums(-315000, -3000, 0) || e.R.Tax != -31200 || len(e.R.Lines) != 0 {
		t.Errorf("%+v", e)
	}
}

// P19.2: balances go on from run to run, over years; a claim that is paid is served no more.
func TestBalances(t *testing.T) {
	h := started(t, "earn pay = base;", flat())
	h.fine(h.hire(7, record(jan, 100000, 0, 0)), h.claim(7, claim(1, 2, 30000, 70000)), h.hire(8, record(jan, 100000, 0, 0)), h.claim(8, claim(2, 1, 1, 5)))
	for i, want := range [][]int{{30000}, {30000}, {10000, 25000}, {0, 15000}, {0, 0}} {
		if i == 2 {
			h.fine(h.claim(7, claim(3, 1, 25000, 40000)))
		}
		h.runs(2, dec-1+i)
		if l := h.g.Book().Entries[2*i].R.Garnished; !slices.Equal(l, want) {
			t.Errorf("run %d: %v, not %v", i, l, want)
		}
	}
	h.takesBack(2)
	h.takesBack(2)
	h.runs(2, dec+3)
	if l := h.g.Book().Entries[14].R.Garnished; !slices.Equal(l, []int{0, 15000}) {
		t.Errorf("behind two that are taken back: %v", l)
	}
}

// P19.2: a run of nobody counts, has a number, and can be taken back.
func TestRunOfNobody(t *testing.T) {
	h := started(t, three, flat())
	h.runs(0, jan)
	h.lastIs(jan, 0)
	h.runFails(api.ErrShut, jan, jan-1)
	h.fine(h.hire(7, record(mar, 100000, 0, 0)), h.leave(7, dec))
	h.runs(0, feb)
	h.runs(1, mar)
	if e := h.entry(); e.Run != 3 {
		t.Errorf("behind two runs of nobody: %+v", e)
	}
	h.runs(0, dec)
	h.takesBack(0)
	h.lastIs(mar, 1)
	h.takesBack(1)
	h.takesBack(0)
	h.lastIs(jan, 2)
	h.takesBack(0)
	h.lastIs(0, 2)
	h.reverseFails(api.ErrNone)
	h.runs(1, apr)
	if e := h.entry(); e.Run != 5 {
		t.Errorf("behind four runs: %+v", e)
	}
}

// P19.2: each run has a number of its own, also one behind a run that was taken back; one with an error has none.
func TestNumbers(t *testing.T) {
	h := started(t, three, flat())
	h.fine(h.hire(7, record(jan, 100000, 0, 0)))
	numbers := func(want ...int) {
		t.Helper()
		var l []int
		for _, e := range h.g.Book().Entries {
			l = append(l, e.Run)
		}
		if !slices.Equal(l, want) {
			t.Errorf("%v, not %v", l, want)
		}
	}
	h.runs(1, jan, feb)
	h.takesBack(1)
	numbers(1, 2, 2)
	h.runFails(api.ErrShut, jan)
	h.runFails(api.ErrArg, 0)
	h.runs(1, feb)
	numbers(1, 2, 2, 3)
	h.takesBack(1)
	h.takesBack(1)
	h.runs(1, jan)
	numbers(1, 2, 2, 3, 3, 1, 4)
	h.fine(h.change(7, record(feb, most, 0, 0)))
	h.rules("earn pay = base * 33;")
	h.runFails(api.ErrOver, feb, feb, mar)
	h.rules("earn pay = base;")
	h.runs(1, feb)
	numbers(1, 2, 2, 3, 3, 1, 4, 5)
}

// P19.2: an error of one person's among many, the first, one in the middle, or the last: then nothing has changed.
func TestErrorOfOne(t *testing.T) {
	for id := 1; id <= 5; id++ {
		h := started(t, "earn pay = base * 32 + bonus;", steps())
		for i := 1; i <= 5; i++ {
			h.fine(h.hire(i, record(jan, 1000*i, 0, 0)), h.claim(i, claim(1, 1, 5000, 9000)))
		}
		h.runs(5, jan)
		h.fine(h.change(id, record(feb, most, 1, 0)))
		h.runFails(api.ErrOver, feb, feb, mar)
		h.lastIs(jan, 5)
		h.takesBack(5)
		h.runFails(api.ErrOver, feb)
		h.runs(5, jan)
		h.fine(h.change(id, record(feb, most, 0, 0)))
		h.runs(5, feb)
		if e := h.entry(); e.Run != 3 {
			t.Errorf("%+v", e)
		}
	}
}

// P19.2: the errors that there may be: a line that is too much, now or of a month ahead, too much to put right, and a year of too much.
func TestTooMuch(t *testing.T) {
	h := started(t, "earn pay = base * 32 + bonus;", flat())
	h.fine(h.hire(7, record(jan, most, 0, 0)))
	h.runs(1, jan)
	h.fine(h.change(7, record(jan, most, 1, 0)), h.change(7, record(feb, 0, 0, 0)))
	h.runFails(api.ErrOver, feb, dec) // January's line is too much by now
	h.runs(1, next)                   // which is another year's
	h.takesBack(1)
	h.fine(h.change(7, record(jan, 0, 0, 0)))
	h.runs(1, feb) // all of January's is put right
	h.takesBack(1)
	h.takesBack(1)
	h.runs(1, jan, feb)
	h.fine(h.change(7, record(jan, most, 0, 0)), h.change(7, record(feb, 0, 1, 0)), h.change(7, record(mar, 0, 0, 0)))
	h.runFails(api.ErrOver, mar) // 1 more to put right than there may be
	h.fine(h.change(7, record(feb, 0, 0, 0)))
	h.runs(1, mar)

	for i := range 20 {
		h = started(t, wide(i+1), flat())
		h.fine(h.hire(7, record(jan, most, 0, 0)))
		for j := range 12 {
			if (i+1)*(j+1) > 32 { // 2^50 by 2^45
				h.runFails(api.ErrOver, jan+j)
				break
			}
			h.runs(1, jan+j)
		}
	}
}

// wide are so many lines of earn, each of which may be just as much as a line may be.
func wide(n int) string {
	text := ""
	for i := range n {
		text += "earn pay" + string(rune('a'+i)) + " = base * 32;"
	}
	return text
}

// P19.3: taking back all runs, one by one, and one more; what they put down stays, and what takes it back stands behind, in order.
func TestReverse(t *testing.T) {
	h := started(t, three, steps())
	h.reverseFails(api.ErrNone)
	h.fine(h.hire(7, record(jan, 100000, 0, 0)), h.hire(4, record(feb, 80000, 0, 0)), h.hire(9, record(feb, 70000, 0, 0)))
	h.runs(1, jan)
	h.runs(3, feb, mar)
	h.takesBack(3)
	h.lastIs(feb, 10)
	var backs []int
	for _, e := range h.g.Book().Entries[7:] {
		backs = append(backs, e.Back, e.Id)
	}
	if !slices.Equal(backs, []int{5, 4, 6, 7, 7, 9}) {
		t.Errorf("%v", backs)
	}
	h.runs(3, mar)
	h.takesBack(3)
	h.takesBack(3)
	h.lastIs(jan, 19)
	h.takesBack(1)
	h.lastIs(0, 20)
	h.reverseFails(api.ErrNone)
	h.reverseFails(api.ErrNone)
	for at := range h.g.Book().Entries {
		if book.Live(h.g.Book(), at) {
			t.Errorf("%d is live", at)
		}
	}
	h.runs(1, jan)
	h.lastIs(jan, 21)
	h.yearIs(7, 2023, 100000, 100000, 10000)
}

// P19.3: only the last run is taken back, though there was another one of its period.
func TestReverseOfAPeriodRunTwice(t *testing.T) {
	h := started(t, three, flat())
	h.fine(h.hire(7, record(jan, 100000, 0, 0)), h.hire(8, record(jan, 100, 0, 0)))
	h.runs(2, jan)
	h.takesBack(2)
	h.fine(h.leave(8, feb), h.change(7, record(jan, 5000, 0, 0)))
	h.runs(2, jan)
	h.runs(1, feb)
	h.takesBack(1)
	h.takesBack(2)
	h.lastIs(0, 10)
	h.runs(1, feb) // as no run of January counts, it stays as it is
	h.yearIs(7, 2023, 5000, 5000, 500)
	h.runFails(api.ErrShut, jan)
}

// P19.3: a year is closed once, and not behind one that is; nothing of it is run, or taken back, any more.
func TestClose(t *testing.T) {
	h := started(t, three, flat())
	h.closes(api.ErrArg, math.MinInt, -2023, -1, 0, 1, 1899, 3000, jan, api.Most)
	h.fine(h.hire(7, record(22800, 100000, 0, 0)))
	h.runs(1, jan-1, jan, dec)
	h.closes(api.OK, 1900)
	h.closes(api.ErrShut, 1900)
	h.closes(api.ErrArg, 1899, 0)
	h.runs(1, next)
	h.closes(api.OK, 2021, 2022)
	h.closes(api.ErrShut, 2022, 2021, 2000, 1901, 1900)
	h.closes(api.ErrArg, 3000, 1899)
	h.takesBack(1)
	h.takesBack(1)
	h.runs(1, mar)
	h.takesBack(1)
	h.takesBack(1)
	h.lastIs(jan-1, 9)
	h.reverseFails(api.ErrShut) // of December 2022
	h.runFails(api.ErrShut, jan-1, jan-2)
	h.runs(1, jan)
	h.closes(api.OK, 2023)
	h.runFails(api.ErrShut, feb, dec)
	h.reverseFails(api.ErrShut)
	h.runs(1, next)
	h.takesBack(1)
	h.reverseFails(api.ErrShut)
	h.closes(api.OK, 2999)
	h.closes(api.ErrShut, 2999, 2023)
	h.runFails(api.ErrShut, next, 35999)
	h.lastIs(jan, 12)
}

// P19.3: a year that is ahead of all runs can be closed; that of people may still be changed.
func TestCloseAhead(t *testing.T) {
	h := started(t, three, flat())
	h.closes(api.OK, 2023)
	h.fine(h.hire(7, record(jan, 100000, 0, 0)), h.change(7, record(jan, 5, 0, 0)), h.leave(7, next+1))
	h.runFails(api.ErrShut, jan, dec)
	h.reverseFails(api.ErrNone)
	h.runs(1, next)
	h.runs(0, next+1)
	h.closes(api.OK, 2024)
	h.reverseFails(api.ErrShut) // though it is a run of nobody
}

// P19.4: a month left out is none of the periods that were run: nothing of it is put right, and it is run no more.
func TestMonthsLeftOut(t *testing.T) {
	h := started(t, three, flat())
	h.fine(h.hire(7, record(jan, 100000, 0, 0)))
	h.runs(1, jan, mar)
	h.fine(h.change(7, record(jan, 200000, 0, 0)), h.hire(8, record(jan, 60000, 0, 0)))
	h.runFails(api.ErrShut, feb)
	h.runs(2, apr)
	h.yearIs(7, 2023, 600000, 600000, 60000)
	h.yearIs(8, 2023, 60000, 60000, 6000) // January and March were not run of them
}

// P19.4: of who left behind a run there is nothing more, till they work again: then the months that they were gone in are put right.
func TestGone(t *testing.T) {
	h := started(t, three, flat())
	h.fine(h.hire(7, record(jan, 100000, 0, 0)))
	h.runs(1, jan, feb, mar)
	h.fine(h.leave(7, feb))
	h.runs(0, apr)
	h.yearIs(7, 2023, 300000, 300000, 30000)
	h.fine(h.leave(7, dec))
	h.runs(1, apr+1)
	h.yearIs(7, 2023, 400000, 400000, 40000)
	h.takesBack(1)
	h.takesBack(0)
	h.takesBack(1)
	h.fine(h.change(7, record(mar, 5, 0, 0)))
	h.runs(1, mar)
	h.yearIs(7, 2023, 200005, 200005, 20000)
}

// R1: what an engine answers is new memory, and what it was handed may be written into: neither changes what it has.
func TestNewMemory(t *testing.T) {
	h := started(t, three, steps())
	s := steps()
	h.fine(h.scheme(s, 50000))
	s.Rows[0].Rate, s.Funds[0].Rate, s.Funds[1] = 9999, 9999, withhold.Fund{}
	h.isSame("a scheme that is written into")
	h.fine(h.hire(7, record(jan, 100000, 2000, 3)), h.claim(7, claim(1, 1, 100, 150)), h.change(7, record(mar, 1, 1, 1)))
	h.runs(1, jan)
	h.fine(h.change(7, record(jan, 90000, 1000, 1)))
	h.runs(1, feb)
	h.takesBack(1)
	scribble(h.g)
	h.isSame("answers that are written into")
	h.runs(1, feb)
	scribble(h.g)
	h.takesBack(1)
	h.isSame("answers that are written into")
}

// scribble writes into all that an engine answers.
func scribble(g *engine.Engine) {
	p, m, b := g.Plan(), g.Master(), g.Book()
	p.P.Rules[0], p.P.Exprs[0], p.S.Rows[0], p.S.Funds[0] = tree.Rule{}, tree.Expr{}, api.Row{}, withhold.Fund{}
	m.People[0].Records[0], m.People[0].Orders[0] = master.Record{}, api.Order{}
	m.People[0] = master.Person{}
	for i, e := range b.Entries {
		e.R.Lines[0], e.R.Paid[0], e.R.Owed[0], e.R.Garnished[0] = result.Line{}, -5, -5, -5
		clear(e.Fixes)
		b.Entries[i] = book.Entry{}
	}
}

// R4: engines have nothing in common, not even such as were copied as values.
func TestTwoEngines(t *testing.T) {
	a, b := started(t, three, flat()), hold(t)
	a.fine(a.hire(7, record(jan, 100000, 2000, 3)))
	a.runs(1, jan, feb, mar)
	a.closes(api.OK, 2020)
	b.isSame("the other one")
	b.runFails(api.ErrNone, jan)
	b.closes(api.OK, 1901)

	for range 3 { // lists that grow have room behind them now and then
		copied := *a.g
		before := [...]any{copied.Book(), copied.Master(), copied.Plan(), copied.Last()}
		a.runs(1, a.g.Last()+1)
		if n, e := copied.Run(dec); n != 1 || e != api.OK {
			t.Fatalf("Run of the copy: %d, %d", n, e)
		}
		a.isSame("one that was copied")
		if n, e := copied.Reverse(); n != 1 || e != api.OK {
			t.Fatalf("Reverse of the copy: %d, %d", n, e)
		}
		a.isSame("one that was copied")
		if b := copied.Book(); len(b.Entries) != len(before[0].(book.Book).Entries)+2 || !reflect.DeepEqual(before[1:], []any{copied.Master(), copied.Plan(), copied.Last()}) {
			t.Fatalf("the copy: %v", b)
		}
	}
}

// P1: an engine that is none answers what a new one would, and nothing is kept; one that New did not make is a new one.
func TestNoEngine(t *testing.T) {
	var none *engine.Engine
	for range 2 {
		if at, e := none.Rules(three); at != 0 || e != api.OK {
			t.Errorf("Rules: %d, %d", at, e)
		}
		if at, e := none.Rules("earn x = ;"); at != 9 || e != api.ErrForm {
			t.Errorf("Rules: %d, %d", at, e)
		}
		got := []api.Errno{none.Scheme(flat(), 0), none.Scheme(flat(), -1), none.Hire(7, record(jan, 1, 1, 1)), none.Hire(0, record(jan, 1, 1, 1)),
			none.Change(7, record(jan, 1, 1, 1)), none.Leave(7, feb), none.Claim(7, claim(1, 1, 1, 1)), none.Close(2023), none.Close(0)}
		want := []api.Errno{api.OK, api.ErrArg, api.OK, api.ErrArg, api.ErrNone, api.ErrNone, api.ErrNone, api.OK, api.ErrArg}
		if !slices.Equal(got, want) {
			t.Errorf("%v, not %v", got, want)
		}
		if n, e := none.Run(jan); n != 0 || e != api.ErrNone {
			t.Errorf("Run: %d, %d", n, e)
		}
		if n, e := none.Reverse(); n != 0 || e != api.ErrNone {
			t.Errorf("Reverse: %d, %d", n, e)
		}
		if len(none.Book().Entries) != 0 || len(none.Master().People) != 0 || !samePlan(none.Plan(), result.Plan{}) || none.Last() != 0 {
			t.Errorf("%v, %v, %v, %d", none.Book(), none.Master(), none.Plan(), none.Last())
		}
	}
	h := &held{t, new(engine.Engine), newExact()}
	h.runFails(api.ErrNone, jan)
	h.rules(three)
	h.fine(h.scheme(flat(), 0), h.hire(7, record(jan, 100000, 0, 0)))
	h.runs(1, jan)
}
