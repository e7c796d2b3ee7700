package engine_test

import (
	"cmp"
	"maps"
	"slices"
	"testing"

	"paymaster/api"
	"paymaster/book"
	"paymaster/engine"
	"paymaster/garnish"
	"paymaster/master"
	"paymaster/order"
	"paymaster/result"
	"paymaster/tree"
	"paymaster/withhold"
)

// A second telling, by other means than the package's: runs that count are a list of what they put down, and one that is taken back is
// struck from it, so that nothing asks which entries are live; what comes from elsewhere is what counts now of the year's periods, less
// what they were put down with, all together; what is withheld is what is due of all of the year, less what was withheld in it.

type exactRun struct {
	number, period int
	entries        []book.Entry
	places         []int // of these, among all that came
}

type exactPerson struct {
	hired, gone int
	records     map[int]master.Record
	orders      []api.Order
}

type exact struct {
	rules          *tree.Program
	scheme         *withhold.Scheme
	protected      int
	people         map[int]*exactPerson
	runs           []exactRun
	came           []book.Entry
	number, closed int
}

func newExact() *exact {
	return &exact{people: map[int]*exactPerson{}}
}

// counting are the entries of somebody that count, in order.
func (x *exact) counting(id int) []book.Entry {
	var l []book.Entry
	for _, r := range x.runs {
		for _, e := range r.entries {
			if e.Id == id {
				l = append(l, e)
			}
		}
	}
	return l
}

func (x *exact) last() int {
	if n := len(x.runs); n > 0 {
		return x.runs[n-1].period
	}
	return 0
}

// record is the one with the last From that is not behind the period, of who works then.
func (x *exact) record(id int, period int) (master.Record, bool) {
	who := x.people[id]
	if who == nil || period < who.hired || who.gone != 0 && period >= who.gone {
		return master.Record{}, false
	}
	for from := period; ; from-- {
		if r, there := who.records[from]; there {
			return r, true
		}
	}
}

// now are the lines of a period and their sums; there are none of who does not work then.
func (x *exact) now(id int, period int) ([]result.Line, result.Sums, api.Errno) {
	r, there := x.record(id, period)
	if !there {
		return nil, result.Sums{}, api.OK
	}
	l, _, e := result.Lines(*x.rules, r.In)
	var s result.Sums
	for _, line := range l {
		*map[string]*int{"earn": &s.Gross, "pretax": &s.Pretax, "post": &s.Post}[line.Kind] += line.Amount
	}
	return l, s, e
}

func plus(a, b result.Sums) result.Sums {
	return result.Sums{Gross: a.Gross + b.Gross, Pretax: a.Pretax + b.Pretax, Post: a.Post + b.Post}
}

func minus(a, b result.Sums) result.Sums {
	return result.Sums{Gross: a.Gross - b.Gross, Pretax: a.Pretax - b.Pretax, Post: a.Post - b.Post}
}

// fixes are what the year's periods that were run are short of, one by one.
func (x *exact) fixes(id int, put []book.Entry) ([]book.Fix, result.Sums, api.Errno) {
	known := map[int]result.Sums{}
	for _, e := range put {
		known[e.Period] = plus(known[e.Period], e.R.Raw)
		for _, f := range e.Fixes {
			known[f.Period] = plus(known[f.Period], f.S)
		}
	}
	var l []book.Fix
	var all result.Sums
	for _, e := range put {
		_, now, f := x.now(id, e.Period)
		if f != api.OK {
			return nil, all, f
		}
		all = plus(all, minus(minus(now, e.R.Raw), e.R.Extra))
		if s := minus(now, known[e.Period]); s != (result.Sums{}) {
			l = append(l, book.Fix{Period: e.Period, S: s})
		}
	}
	return l, all, api.OK
}

func far(bits int, l ...int) bool {
	return slices.ContainsFunc(l, func(n int) bool { return n > 1<<bits || n < -(1<<bits) })
}

// off is what of some sums is not there yet: those of a year, less those of what was put down in it.
func off(due []int, put []book.Entry, of func(result.Result) []int) []int {
	l := slices.Clone(due)
	for _, e := range put {
		for i, n := range of(e.R) {
			if i < len(l) {
				l[i] -= n
			}
		}
	}
	return l
}

// entry is what a run puts down for somebody; the only error that there may be is ErrOver.
func (x *exact) entry(number int, period int, id int) (book.Entry, bool) {
	var put []book.Entry
	for _, e := range x.counting(id) {
		if e.Period/12 == period/12 {
			put = append(put, e)
		}
	}
	record, _ := x.record(id, period)
	fixes, extra, e := x.fixes(id, put)
	lines, raw, f := x.now(id, period)
	if e != api.OK || f != api.OK || far(45, extra.Gross, extra.Pretax, extra.Post) {
		return book.Entry{}, false
	}
	all := plus(raw, extra)
	r := result.Result{Lines: lines, Raw: raw, Extra: extra, Taxable: all.Gross - all.Pretax}
	taxable, base := r.Taxable, all.Gross
	for _, e := range put {
		taxable, base = taxable+e.R.Taxable, base+e.R.Raw.Gross+e.R.Extra.Gross
	}
	if far(50, r.Taxable, all.Gross, taxable-r.Taxable, base-all.Gross, taxable, base) {
		return book.Entry{}, false
	}
	due, _ := withhold.Due(*x.scheme, taxable, base)
	r.Tax = off([]int{due.Tax}, put, func(r result.Result) []int { return []int{r.Tax} })[0]
	r.Paid = off(due.Paid, put, func(r result.Result) []int { return r.Paid })
	r.Owed = off(due.Owed, put, func(r result.Result) []int { return r.Owed })
	if !x.payOut(&r, id, all.Post) {
		return book.Entry{}, false
	}
	return book.Entry{Run: number, Period: period, Id: id, Centre: record.Centre, R: r, Fixes: fixes}, true
}

func (x *exact) payOut(r *result.Result, id int, post int) bool {
	left := r.Taxable - r.Tax
	for _, n := range r.Paid {
		left -= n
	}
	r.Taken = post
	if post > 0 && post > left {
		r.Taken = max(left, 0)
	}
	r.Held = post - r.Taken
	left -= r.Taken
	orders := slices.Clone(x.people[id].orders)
	for i := range orders {
		for _, e := range x.counting(id) {
			if i < len(e.R.Garnished) {
				orders[i].Balance -= e.R.Garnished[i]
			}
		}
	}
	var e api.Errno
	r.Garnished, e = garnish.Serve(left, x.protected, orders)
	for _, n := range r.Garnished {
		left -= n
	}
	if r.Net = left; left < 0 {
		r.Net, r.Short = 0, -left
	}
	return e == api.OK
}

func (x *exact) run(period int) (int, api.Errno) {
	switch {
	case x.rules == nil || x.scheme == nil:
		return 0, api.ErrNone
	case period < 22800 || period > 35999:
		return 0, api.ErrArg
	case period/12 <= x.closed || period <= x.last():
		return 0, api.ErrShut
	}
	r := exactRun{number: x.number + 1, period: period}
	for _, id := range slices.Sorted(maps.Keys(x.people)) {
		if _, there := x.record(id, period); !there {
			continue
		}
		e, ok := x.entry(r.number, period, id)
		if !ok {
			return 0, api.ErrOver
		}
		r.places = append(r.places, len(x.came)+len(r.entries))
		r.entries = append(r.entries, e)
	}
	x.number = r.number
	x.runs = append(x.runs, r)
	x.came = append(x.came, r.entries...)
	return len(r.entries), api.OK
}

func (x *exact) reverse() (int, api.Errno) {
	switch n := len(x.runs) - 1; {
	case n < 0:
		return 0, api.ErrNone
	case x.runs[n].period/12 <= x.closed:
		return 0, api.ErrShut
	default:
		r := x.runs[n]
		for i, e := range r.entries {
			e.Back = r.places[i] + 1
			x.came = append(x.came, e)
		}
		x.runs = x.runs[:n]
		return len(r.entries), api.OK
	}
}

func (x *exact) close(year int) api.Errno {
	switch {
	case year < 1900 || year > 2999:
		return api.ErrArg
	case year <= x.closed:
		return api.ErrShut
	}
	x.closed = year
	return api.OK
}

// The four of people, in layer 13's words.

func isFrom(least int, n int, most int) bool { return least <= n && n <= most }

func isRecord(id int, r master.Record) bool {
	return isFrom(1, id, 1<<31-1) && isFrom(22800, r.From, 35999) && isFrom(0, r.Centre, 999) &&
		isFrom(0, r.In.Base, 1<<40) && isFrom(0, r.In.Bonus, 1<<40) && isFrom(0, r.In.Hours, 1<<40) && isFrom(0, r.In.Days, 1<<40)
}

func (x *exact) hire(id int, r master.Record) api.Errno {
	switch {
	case !isRecord(id, r):
		return api.ErrArg
	case x.people[id] != nil:
		return api.ErrThere
	case len(x.people) == 50:
		return api.ErrLong
	}
	x.people[id] = &exactPerson{hired: r.From, records: map[int]master.Record{r.From: r}}
	return api.OK
}

func (x *exact) change(id int, r master.Record) api.Errno {
	who := x.people[id]
	switch {
	case !isRecord(id, r):
		return api.ErrArg
	case who == nil:
		return api.ErrNone
	case r.From < who.hired:
		return api.ErrArg
	}
	who.records[r.From] = r
	return api.OK
}

func (x *exact) leave(id int, period int) api.Errno {
	who := x.people[id]
	switch {
	case who == nil:
		return api.ErrNone
	case !isFrom(22800, period, 35999) || period <= who.hired:
		return api.ErrArg
	}
	who.gone = period
	return api.OK
}

func (x *exact) claim(id int, o api.Order) api.Errno {
	who := x.people[id]
	switch {
	case who == nil:
		return api.ErrNone
	case !isFrom(1, o.Creditor, 999) || !isFrom(1, o.Priority, 999) || !isFrom(1, o.Claim, 1<<40) || !isFrom(1, o.Balance, 1<<40):
		return api.ErrArg
	case slices.ContainsFunc(who.orders, func(a api.Order) bool { return a.Creditor == o.Creditor }):
		return api.ErrThere
	case len(who.orders) == 8:
		return api.ErrLong
	}
	who.orders = append(who.orders, o)
	return api.OK
}

// What both tell, held against each other, call by call.

type held struct {
	t *testing.T
	g *engine.Engine
	x *exact
}

func hold(t *testing.T) *held {
	return &held{t, engine.New(), newExact()}
}

func (h *held) same(what string, e, want api.Errno) api.Errno {
	h.t.Helper()
	if e != want {
		h.t.Fatalf("%s: %d, not %d", what, e, want)
	}
	h.isSame(what)
	return e
}

func (h *held) sameCount(what string, n int, e api.Errno, many int, want api.Errno) (int, api.Errno) {
	h.t.Helper()
	if n != many || e != want {
		h.t.Fatalf("%s: %d, %d, not %d, %d", what, n, e, many, want)
	}
	h.isSame(what)
	return n, e
}

func (h *held) rules(text string) (int, api.Errno) {
	h.t.Helper()
	p, place, want := tree.Parse(text)
	if want == api.OK {
		_, _, place, want = order.Check(p)
	}
	if want == api.OK {
		h.x.rules = &p
	}
	at, e := h.g.Rules(text)
	return h.sameCount("Rules", at, e, place, want)
}

func (h *held) scheme(s withhold.Scheme, protected int) api.Errno {
	h.t.Helper()
	want := api.ErrArg
	if withhold.Right(s) && isFrom(0, protected, 1<<40) {
		kept := withhold.Scheme{Rows: slices.Clone(s.Rows), Funds: slices.Clone(s.Funds)}
		h.x.scheme, h.x.protected, want = &kept, protected, api.OK
	}
	return h.same("Scheme", h.g.Scheme(s, protected), want)
}

func (h *held) hire(id int, r master.Record) api.Errno {
	h.t.Helper()
	return h.same("Hire", h.g.Hire(id, r), h.x.hire(id, r))
}

func (h *held) change(id int, r master.Record) api.Errno {
	h.t.Helper()
	return h.same("Change", h.g.Change(id, r), h.x.change(id, r))
}

func (h *held) leave(id int, period int) api.Errno {
	h.t.Helper()
	return h.same("Leave", h.g.Leave(id, period), h.x.leave(id, period))
}

func (h *held) claim(id int, o api.Order) api.Errno {
	h.t.Helper()
	return h.same("Claim", h.g.Claim(id, o), h.x.claim(id, o))
}

func (h *held) run(period int) (int, api.Errno) {
	h.t.Helper()
	many, want := h.x.run(period)
	n, e := h.g.Run(period)
	h.sameCount("Run", n, e, many, want)
	if e == api.OK {
		h.isDue(period)
	}
	return n, e
}

func (h *held) reverse() (int, api.Errno) {
	h.t.Helper()
	many, want := h.x.reverse()
	n, e := h.g.Reverse()
	return h.sameCount("Reverse", n, e, many, want)
}

func (h *held) close(year int) api.Errno {
	h.t.Helper()
	return h.same("Close", h.g.Close(year), h.x.close(year))
}

// isSame: is all that there is the same?
func (h *held) isSame(what string) {
	h.t.Helper()
	if n := h.g.Last(); n != h.x.last() {
		h.t.Fatalf("%s: Last is %d, not %d", what, n, h.x.last())
	}
	if b := h.g.Book(); !slices.EqualFunc(b.Entries, h.x.came, sameEntry) {
		h.t.Fatalf("%s: Book is\n%+v, not\n%+v", what, b.Entries, h.x.came)
	}
	if m := h.g.Master(); !slices.EqualFunc(m.People, h.x.staff(), samePerson) {
		h.t.Fatalf("%s: Master is %+v, not %+v", what, m.People, h.x.staff())
	}
	if p, want := h.g.Plan(), h.x.plan(); !samePlan(p, want) {
		h.t.Fatalf("%s: Plan is %+v, not %+v", what, p, want)
	}
}

func (x *exact) plan() result.Plan {
	p := result.Plan{Protected: x.protected}
	if x.rules != nil {
		p.P = *x.rules
	}
	if x.scheme != nil {
		p.S = *x.scheme
	}
	return p
}

func (x *exact) staff() []master.Person {
	var l []master.Person
	for id, who := range x.people {
		records := slices.SortedFunc(maps.Values(who.records), func(a, b master.Record) int { return cmp.Compare(a.From, b.From) })
		l = append(l, master.Person{Id: id, Hired: who.hired, Gone: who.gone, Records: records, Orders: who.orders})
	}
	slices.SortFunc(l, func(a, b master.Person) int { return cmp.Compare(a.Id, b.Id) })
	return l
}

func samePlan(a, b result.Plan) bool {
	return a.Protected == b.Protected && slices.Equal(a.P.Rules, b.P.Rules) && slices.Equal(a.P.Exprs, b.P.Exprs) &&
		slices.Equal(a.S.Rows, b.S.Rows) && slices.Equal(a.S.Funds, b.S.Funds)
}

func samePerson(a, b master.Person) bool {
	return a.Id == b.Id && a.Hired == b.Hired && a.Gone == b.Gone && slices.Equal(a.Records, b.Records) && slices.Equal(a.Orders, b.Orders)
}

func sameEntry(a, b book.Entry) bool {
	return a.Run == b.Run && a.Period == b.Period && a.Id == b.Id && a.Centre == b.Centre && a.Back == b.Back &&
		slices.Equal(a.Fixes, b.Fixes) && sameResult(a.R, b.R)
}

func sameResult(a, b result.Result) bool {
	return slices.Equal(a.Lines, b.Lines) && a.Raw == b.Raw && a.Extra == b.Extra && a.Taxable == b.Taxable && a.Tax == b.Tax &&
		a.Taken == b.Taken && a.Held == b.Held && a.Net == b.Net && a.Short == b.Short &&
		slices.Equal(a.Paid, b.Paid) && slices.Equal(a.Owed, b.Owed) && slices.Equal(a.Garnished, b.Garnished)
}

// isDue: P19.4. Whoever works in the period that was run last has in its year just what is due of what counts now of their periods that were run.
func (h *held) isDue(period int) {
	h.t.Helper()
	b := h.g.Book()
	for _, id := range master.Staff(h.g.Master(), period) {
		taxable, base := 0, 0
		for _, e := range h.x.counting(id) {
			if e.Period/12 != period/12 {
				continue
			}
			_, now, _ := h.x.now(id, e.Period)
			taxable, base = taxable+now.Gross-now.Pretax, base+now.Gross
		}
		y := book.Year(b, id, period/12, len(h.x.scheme.Funds))
		due, e := withhold.Due(*h.x.scheme, taxable, base)
		if e != api.OK || y.Taxable != due.Taxable || y.Base != due.Base || y.Tax != due.Tax || !slices.Equal(y.Paid, due.Paid) || !slices.Equal(y.Owed, due.Owed) {
			h.t.Fatalf("behind the run of %d, %d has %+v; due is %+v, %d", period, id, y, due, e)
		}
	}
}
