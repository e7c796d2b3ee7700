package journal_test

import (
	"fmt"
	"maps"
	"slices"
	"testing"

	"paymaster/api"
	"paymaster/book"
	"paymaster/engine"
	"paymaster/journal"
	"paymaster/master"
	"paymaster/result"
	"paymaster/value"
	"paymaster/withhold"
)

// Strewn entries, books and postings of any kind, held against the second telling; and strewn plays of an engine, of which P21.3 is asked.

type strewn uint64

func (g *strewn) below(n int) int {
	*g = *g*6364136223846793005 + 1442695040888963407
	return int(*g>>33) % n
}

// amount is of a size that is strewn, above or below 0; an edge now and then, and now and then 1 farther.
func (g *strewn) amount() int {
	switch g.below(400) {
	case 0:
		return []int{far + 1, -far - 1, -1 << 63, api.Most, 1 << 51}[g.below(5)]
	case 1, 2, 3, 4, 5:
		return []int{far, -far, far - 1, 1 - far, far / 2, -far / 2, far/2 + 1}[g.below(7)]
	}
	n := g.below(1<<31) << 18 >> g.below(50)
	return []int{0, n, n, -n}[g.below(4)]
}

func (g *strewn) amounts(many int) []int {
	var l []int
	for range many {
		l = append(l, g.amount())
	}
	return l
}

func (g *strewn) sums() result.Sums {
	return result.Sums{Gross: g.amount(), Pretax: g.amount(), Post: g.amount()}
}

// entry is of few people and centres; mostly of as many Paid as Owed.
func (g *strewn) entry() book.Entry {
	many := g.below(7)
	other := many
	if g.below(12) == 0 {
		many, other = g.below(9), g.below(9)
	}
	e := book.Entry{Run: g.below(9), Period: jan + g.below(9), Id: 5 + g.below(4), Centre: g.below(4), Back: []int{0, 0, 1, g.below(9)}[g.below(4)]}
	e.R = result.Result{
		Raw: g.sums(), Extra: g.sums(), Taxable: g.amount(), Tax: g.amount(), Taken: g.amount(), Held: g.amount(), Net: g.amount(), Short: g.amount(),
		Paid: g.amounts(many), Owed: g.amounts(other), Garnished: g.amounts(g.below(5)),
	}
	return e
}

// orders are mostly of right creditors.
func (g *strewn) orders(many int) []api.Order {
	var l []api.Order
	for range many {
		o := api.Order{Creditor: 1 + g.below(999), Priority: g.below(9), Claim: g.amount(), Balance: g.amount()}
		if g.below(30) == 0 {
			o.Creditor = []int{0, 1000, -1, 1, 999}[g.below(5)]
		}
		l = append(l, o)
	}
	return l
}

// P21.1: strewn entries and orders.
func TestStrewnEntries(t *testing.T) {
	g := strewn(21)
	var errors [api.ErrShut + 1]int
	for range 40000 {
		l, e := hold(t, g.entry(), g.orders(g.below(3)+g.below(7)))
		errors[e]++
		for _, p := range l {
			holdBalance(t, l, p.Account, g.below(5)-1)
		}
		holdTotals(t, l)
	}
	if errors[api.OK] < 15000 || errors[api.ErrArg] < 5000 || errors[api.ErrOver] < 2000 {
		t.Errorf("errors %v", errors)
	}
}

// P21.1, P21.2: strewn books, with masters that have some of their people.
func TestStrewnBooks(t *testing.T) {
	g := strewn(212)
	var errors [api.ErrShut + 1]int
	for range 4000 {
		var m master.Master
		for id := 5; id < 9; id++ {
			if g.below(9) > 0 {
				m.People = append(m.People, master.Person{Id: id, Orders: g.orders(4 + g.below(5))})
			}
		}
		var b book.Book
		for range g.below(8) {
			b.Entries = append(b.Entries, g.entry())
		}
		l, e := holdAll(t, b, m)
		errors[e]++
		for range 5 {
			account := []int{4000, 4100, 1700, 2000, 2100, 2200 + g.below(6), 2300, 2400, 3000 + g.below(1000)}[g.below(9)]
			holdBalance(t, l, account, g.below(6)-2)
		}
		holdTotals(t, l)
	}
	if errors[api.OK] < 1000 || errors[api.ErrArg] < 500 || errors[api.ErrOver] < 300 {
		t.Errorf("errors %v", errors)
	}
}

// P21.2: strewn postings, also of such sums as are about the bound, and of great amounts.
func TestStrewnPostings(t *testing.T) {
	g := strewn(213)
	var errors [api.ErrShut + 1]int
	for range 40000 {
		var l []journal.Posting
		room := 1<<53 + g.below(5) - 2
		for range g.below(8) {
			n := g.below(1<<31) << 22 >> g.below(40)
			if n > room {
				n = room
			}
			room -= n
			l = append(l, journal.Posting{Account: g.below(3), Centre: g.below(4) - 1, Amount: []int{n, -n}[g.below(2)]})
		}
		switch g.below(6) {
		case 0:
			l = append(l, journal.Posting{Amount: g.amount()})
		case 1, 2:
			l = append(l, journal.Posting{Amount: []int{room, -room}[g.below(2)]})
		}
		_, e := holdTotals(t, l)
		errors[e]++
		holdBalance(t, l, g.below(4), g.below(6)-2)
	}
	if errors[api.OK] < 15000 || errors[api.ErrOver] < 4000 {
		t.Errorf("errors %v", errors)
	}
}

// rules are some of each kind; with hours above 100 what is taken off is much.
const rules = `
let share = if lead then 12.50% else 4.00%;
earn pay = base; earn extra = bonus + 13.37 * hours;
pretax plan = pay * share; pretax more = days * -1.01;
post meal = 3.33 * days; post tool = if hours > 100 then base else 7.77;
`

func (g *strewn) scheme() withhold.Scheme {
	s := withhold.Scheme{Rows: []api.Row{{Above: 0, Rate: g.below(2500)}, {Above: 90000 + g.below(90000), Rate: g.below(6000)}}}
	for range g.below(7) {
		s.Funds = append(s.Funds, withhold.Fund{Rate: g.below(800), Employer: g.below(1500), Ceiling: g.below(1000000)})
	}
	return s
}

func (g *strewn) record(from int) master.Record {
	in := value.Inputs{Base: g.below(300000), Bonus: g.below(2) * g.below(90000), Hours: g.below(120), Days: g.below(31), Lead: g.below(2) == 0}
	return master.Record{From: from, Centre: g.below(4), In: in}
}

// begun is an engine with rules, a scheme, and people with orders.
func (g *strewn) begun(t *testing.T) *engine.Engine {
	t.Helper()
	eng := engine.New()
	if at, e := eng.Rules(rules); e != api.OK {
		t.Fatalf("Rules: %d, %d", at, e)
	}
	if e := eng.Scheme(g.scheme(), g.below(150000)); e != api.OK {
		t.Fatalf("Scheme: %d", e)
	}
	for id := range 1 + g.below(5) {
		eng.Hire(id+1, g.record(jan+g.below(3)))
		for range g.below(5) {
			eng.Claim(id+1, api.Order{Creditor: 1 + g.below(6)*180, Priority: 1 + g.below(3), Claim: 1 + g.below(40000), Balance: 1 + g.below(90000)})
		}
	}
	return eng
}

// seen counts what came in the entries of plays.
type seen struct{ short, held, fixed, garnished, back, owed int }

func (s *seen) entry(e book.Entry) {
	for _, c := range []struct {
		many *int
		is   bool
	}{
		{&s.short, e.R.Short > 0}, {&s.held, e.R.Held > 0}, {&s.fixed, len(e.Fixes) > 0}, {&s.garnished, len(e.R.Garnished) > 0 && slices.Max(e.R.Garnished) > 0}, {&s.back, e.Back != 0}, {&s.owed, len(e.R.Owed) > 0},
	} {
		if c.is {
			*c.many++
		}
	}
}

// areEven: of each entry debits and credits are the same, and of all of them; and those of all are those of each, in order.
func areEven(t *testing.T, b book.Book, m master.Master, s *seen) {
	t.Helper()
	var want []journal.Posting
	for _, e := range b.Entries {
		who, _ := master.Find(m, e.Id)
		l, f := hold(t, e, who.Orders)
		if c, g := holdTotals(t, l); f != api.OK || g != api.OK || real(c) != imag(c) {
			t.Fatalf("of %v: %d, %v, %d", e, f, c, g)
		}
		want = append(want, l...)
		s.entry(e)
	}
	l, f := holdAll(t, b, m)
	if c, g := holdTotals(t, l); f != api.OK || g != api.OK || real(c) != imag(c) || !slices.Equal(l, want) {
		t.Fatalf("of all: %d, %v, %d", f, c, g)
	}
}

// balances are those of all accounts and centres of which there are postings, without noughts.
func balances(t *testing.T, l []journal.Posting) map[string]int {
	t.Helper()
	of := map[string]int{}
	for _, p := range l {
		for _, centre := range []int{p.Centre, -1} {
			if n := holdBalance(t, l, p.Account, centre); n != 0 {
				of[fmt.Sprint(p.Account, centre)] = n
			}
		}
	}
	return of
}

// P21.3: strewn plays: behind a run that is taken back all accounts are as they were ahead of it, and debits and credits are the same.
func TestStrewnPlays(t *testing.T) {
	g := strewn(214)
	var s seen
	for range 60 {
		eng := g.begun(t)
		ahead := []map[string]int{{}} // the balances ahead of each run that counts, and now
		for period := jan; period < jan+10; period++ {
			for id := range 5 {
				if g.below(4) == 0 {
					eng.Change(id+1, g.record(period-g.below(3)))
				}
			}
			if _, e := eng.Run(period); e != api.OK {
				t.Fatalf("Run: %d", e)
			}
			l, _ := journal.All(eng.Book(), eng.Master())
			ahead = append(ahead, balances(t, l))
			for range g.below(3) {
				if len(ahead) == 1 || g.below(2) == 0 {
					continue
				}
				if _, e := eng.Reverse(); e != api.OK {
					t.Fatalf("Reverse: %d", e)
				}
				ahead = ahead[:len(ahead)-1]
				l, _ := journal.All(eng.Book(), eng.Master())
				if got, want := balances(t, l), ahead[len(ahead)-1]; !maps.Equal(got, want) {
					t.Fatalf("balances of what is taken back: %v, not %v", got, want)
				}
			}
		}
		areEven(t, eng.Book(), eng.Master(), &s)
	}
	if min(s.short, s.held, s.fixed, s.garnished, s.back, s.owed) < 20 {
		t.Errorf("too few: %+v", s)
	}
}
