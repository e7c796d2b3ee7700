package bank_test

import (
	"slices"
	"testing"

	"paymaster/api"
	"paymaster/bank"
	"paymaster/book"
	"paymaster/engine"
	"paymaster/journal"
	"paymaster/master"
	"paymaster/value"
	"paymaster/withhold"
)

// Strewn files, texts and books of any kind, held against the second telling; and strewn plays of an engine, of which P22.3 is asked.

type strewn uint64

func (g *strewn) below(n int) int {
	*g = *g*6364136223846793005 + 1442695040888963407
	return int(*g>>33) % n
}

// from is one of a list.
func (g *strewn) from(l ...int) int { return l[g.below(len(l))] }

// amount is mostly one that a payment may be; an edge now and then.
func (g *strewn) amount() int {
	switch g.below(200) {
	case 0:
		return g.from(0, -1, most+1, api.Most, -1<<63, 1<<51)
	case 1, 2, 3, 4, 5, 6:
		return g.from(1, most, most-1, most/2)
	}
	return 1 + g.below(1<<31)<<18>>g.below(50)
}

func (g *strewn) number() int {
	switch g.below(200) {
	case 0:
		return g.from(0, -1, highest+1, api.Most, -1<<63)
	case 1, 2, 3, 4, 5, 6:
		return g.from(1, highest, 2, highest-1)
	}
	return 1 + g.below(1<<31-1)>>g.below(31)
}

// file is mostly one whose payments are in order.
func (g *strewn) file() bank.File {
	f := bank.File{Period: first + g.below(last-first+1)}
	if g.below(50) == 0 {
		f.Period = g.from(first, last, first-1, last+1, 0, -5)
	}
	for range g.below(3) * g.below(20) {
		kind := byte(g.from('E', 'C'))
		if g.below(300) == 0 {
			kind = byte(g.below(256))
		}
		f.Payments = append(f.Payments, pay(kind, g.number(), g.amount()))
	}
	if g.below(8) > 0 {
		slices.SortFunc(f.Payments, func(a, b bank.Payment) int {
			if a.Kind != b.Kind {
				return int(b.Kind) - int(a.Kind)
			}
			return a.Number - b.Number
		})
	}
	if g.below(8) > 0 {
		f.Payments = slices.CompactFunc(f.Payments, func(a, b bank.Payment) bool { return a.Kind == b.Kind && a.Number == b.Number })
	}
	return f
}

// P22.1, P22.3: strewn files are read as they are written.
func TestStrewnFiles(t *testing.T) {
	g := strewn(22)
	var errors [api.ErrShut + 1]int
	for range 30000 {
		f := g.file()
		_, e := holdWrite(t, f)
		errors[e]++
	}
	if errors[api.OK] < 10000 || errors[api.ErrArg] < 5000 {
		t.Errorf("errors %v", errors)
	}
}

// turned is a text of which a few bytes are others, or a line is moved.
func (g *strewn) turned(s string) string {
	text := []byte(s)
	for range g.below(4) {
		if len(text) == 0 {
			break
		}
		at := g.below(len(text))
		switch g.below(6) {
		case 0:
			text = slices.Delete(text, at, at+1)
		case 1:
			text = slices.Insert(text, at, byte(g.below(256)))
		case 2:
			text = slices.Insert(text, at, text[g.below(len(text))])
		case 3:
			text[at] = text[g.below(len(text))]
		case 4:
			text[at] = byte('0' + g.below(10))
		case 5:
			other := g.below(len(text))
			text[at], text[other] = text[other], text[at]
		}
	}
	return string(text)
}

// P22.1, P22.3: strewn texts, near those of files: what is read is written again.
func TestStrewnTexts(t *testing.T) {
	g := strewn(221)
	var errors [api.ErrShut + 1]int
	for range 30000 {
		s, e := bank.Write(g.file())
		if e != api.OK {
			continue
		}
		_, e = holdRead(t, g.turned(s))
		errors[e]++
	}
	if errors[api.OK] < 2000 || errors[api.ErrForm] < 5000 {
		t.Errorf("errors %v", errors)
	}
}

// entry is of few people and periods.
func (g *strewn) entry() book.Entry {
	e := got(3+g.below(12), g.from(0, 0, 1, 1, 1, -1)*g.amount())
	for range g.below(4) {
		e.R.Garnished = append(e.R.Garnished, g.from(0, 1, 1, 1, 1, -1)*g.amount())
	}
	e.Period = jan + g.below(3)
	if g.below(3) == 0 {
		e.Back = g.below(10)
	}
	return e
}

// P22.2: strewn books, with masters that have most of their people.
func TestStrewnBooks(t *testing.T) {
	g := strewn(222)
	var errors [api.ErrShut + 1]int
	payments := 0
	for range 20000 {
		var m master.Master
		for id := 3; id < 15; id++ {
			if g.below(12) == 0 {
				continue
			}
			p := master.Person{Id: id}
			for range 2 + g.below(6) {
				o := api.Order{Creditor: 1 + g.below(8), Priority: g.below(5)}
				if g.below(100) == 0 {
					o.Creditor = g.number()
				}
				p.Orders = append(p.Orders, o)
			}
			m.People = append(m.People, p)
		}
		var b book.Book
		for range g.below(14) {
			b.Entries = append(b.Entries, g.entry())
		}
		f, e := holdOf(t, b, m, jan+g.below(4))
		errors[e]++
		payments += len(f.Payments)
	}
	if errors[api.OK] < 8000 || errors[api.ErrArg] < 1500 || payments < 10000 {
		t.Errorf("errors %v, %d payments", errors, payments)
	}
}

const rules = `
let share = if lead then 12.50% else 4.00%;
earn pay = base; earn extra = bonus + 13.37 * hours;
pretax plan = pay * share;
post meal = 3.33 * days; post tool = if hours > 100 then base else 7.77;
`

func (g *strewn) record(from int) master.Record {
	in := value.Inputs{Base: g.below(3) * g.below(150000), Bonus: g.below(2) * g.below(90000), Hours: g.below(120), Days: g.below(31), Lead: g.below(2) == 0}
	return master.Record{From: from, Centre: g.below(4), In: in}
}

// begun is an engine with rules, a scheme, and people, of whom most have orders.
func (g *strewn) begun(t *testing.T) *engine.Engine {
	t.Helper()
	eng := engine.New()
	if at, e := eng.Rules(rules); e != api.OK {
		t.Fatalf("Rules: %d, %d", at, e)
	}
	s := withhold.Scheme{Rows: []api.Row{{Above: 0, Rate: g.below(3500)}}, Funds: []withhold.Fund{{Rate: g.below(800), Employer: g.below(1500), Ceiling: g.below(1000000)}}}
	if e := eng.Scheme(s, g.below(90000)); e != api.OK {
		t.Fatalf("Scheme: %d", e)
	}
	for id := range 1 + g.below(6) {
		eng.Hire(id+1, g.record(jan+g.below(3)))
		for range g.below(6) {
			eng.Claim(id+1, api.Order{Creditor: 1 + g.below(6)*180, Priority: 1 + g.below(3), Claim: 1 + g.below(20000), Balance: 1 + g.below(90000)})
		}
	}
	return eng
}

// allPaid: all that the live entries of a period pay out is in its file, to whom it is, and nothing else; and it is what the journal has of the run.
func allPaid(t *testing.T, eng *engine.Engine, period int) int {
	t.Helper()
	b, m := eng.Book(), eng.Master()
	f, e := holdOf(t, b, m, period)
	if e != api.OK || !bank.Right(f) {
		t.Fatalf("Of: %v, %d", f, e)
	}
	if text, e := holdWrite(t, f); e != api.OK {
		t.Fatalf("Write: %q, %d", text, e)
	}
	var l []journal.Posting
	paid := 0
	for at, entry := range b.Entries {
		if entry.Period == period && book.Live(b, at) {
			who, _ := master.Find(m, entry.Id)
			some, _ := journal.Of(entry, who.Orders)
			l = append(l, some...)
			paid += entry.R.Net + int(sum(entry.R.Garnished).Int64())
		}
	}
	people := 0
	for _, p := range f.Payments {
		paid -= p.Amount
		if p.Kind == 'E' {
			people += p.Amount
		} else if p.Amount != -journal.Balance(l, 3000+p.Number, -1) {
			t.Errorf("%v, and the journal has %d", p, journal.Balance(l, 3000+p.Number, -1))
		}
	}
	if paid != 0 || people != -journal.Balance(l, 2000, -1) {
		t.Errorf("Of(%d): %v leaves %d", period, f, paid)
	}
	return len(f.Payments)
}

// P22.3: strewn plays: of each run all that is paid out is in its file, also while others come behind it, or it is taken back and run again; of what is taken back there is nothing.
func TestStrewnPlays(t *testing.T) {
	g := strewn(223)
	payments, backs, creditors := 0, 0, 0
	for range 60 {
		eng := g.begun(t)
		for period := jan; period < jan+8; period++ {
			for id := range 6 {
				if g.below(4) == 0 {
					eng.Change(id+1, g.record(period-g.below(3)))
				}
			}
			if _, e := eng.Run(period); e != api.OK {
				t.Fatalf("Run: %d", e)
			}
			payments += allPaid(t, eng, period)
			if g.below(3) == 0 {
				if _, e := eng.Reverse(); e != api.OK {
					t.Fatalf("Reverse: %d", e)
				}
				if n := allPaid(t, eng, period); n != 0 {
					t.Fatalf("of a run that is taken back there are %d payments", n)
				}
				backs++
				if _, e := eng.Run(period); e != api.OK {
					t.Fatalf("Run again: %d", e)
				}
			}
			for at := jan - 1; at <= period; at++ {
				allPaid(t, eng, at)
			}
			f, _ := bank.Of(eng.Book(), eng.Master(), period)
			if len(f.Payments) > 0 && f.Payments[len(f.Payments)-1].Kind == 'C' {
				creditors++
			}
		}
	}
	if payments < 1000 || backs < 100 || creditors < 100 {
		t.Errorf("too few: %d payments, %d backs, %d with creditors", payments, backs, creditors)
	}
}
