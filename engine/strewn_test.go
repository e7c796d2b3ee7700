package engine_test

import (
	"slices"
	"strconv"
	"testing"

	"paymaster/api"
	"paymaster/book"
	"paymaster/engine"
	"paymaster/master"
	"paymaster/value"
	"paymaster/withhold"
)

// Strewn plays: all calls, in any order, right and wrong ones, held against the second telling; and two engines, one of which makes runs
// that it takes back, and one that does not.

type strewn uint64

func (g *strewn) below(n int) int {
	*g = *g*6364136223846793005 + 1442695040888963407
	return int(*g>>33) % n
}

// number is from least to most, but for one that is not, now and then.
func (g *strewn) number(least, most int) int {
	if g.below(40) == 0 {
		return []int{-1, 0, least - 1, most + 1, api.Most}[g.below(5)]
	}
	return least + g.below(most-least+1)
}

// text is mostly one that is taken, of one to four lines.
func (g *strewn) text() string {
	texts := [...]string{
		three,
		"earn pay = base; pretax plan = base * 10.00%; post meal = 20.00;",
		"let share = if lead then 10.00% else 5.00%; earn pay = base; earn more = bonus * days; pretax plan = base * share; post back = -bonus;",
		"earn pay = base * 32 + bonus;",
		"earn pay = max(base, 999.00) * 33;",
		"earn a = base - 300.00; post b = bonus * hours; post c = 5.00; pretax d = min(bonus, 30.00);",
		"post c = 10000.00; earn a = base * 2;",
		"",
	}
	wrong := [...]string{"earn x = ;", "?", "earn x = hours;", "earn x = y; let y = x;", "let base = 1;", "earn a = nobody;", "let a = 1; let a = 2;"}
	if g.below(6) == 0 {
		return wrong[g.below(len(wrong))]
	}
	return texts[g.below(len(texts))]
}

func (g *strewn) scheme() withhold.Scheme {
	s := withhold.Scheme{Rows: []api.Row{{Above: 0, Rate: g.number(0, 4000)}}}
	for range g.below(3) {
		s.Rows = append(s.Rows, api.Row{Above: s.Rows[len(s.Rows)-1].Above + 1 + g.below(200000), Rate: g.below(10001)})
	}
	for range g.below(7) + g.below(20)/19 {
		s.Funds = append(s.Funds, withhold.Fund{Rate: g.number(0, 2000), Employer: g.below(3001), Ceiling: []int{0, 50000, 300000, most, api.Most}[g.below(5)]})
	}
	return s
}

func (g *strewn) record(from int) master.Record {
	in := value.Inputs{Base: g.number(0, 1000) * 100, Bonus: g.below(20000), Hours: g.below(4), Days: g.below(31), Lead: g.below(2) == 0}
	if g.below(12) == 0 {
		in.Base = most - g.below(2)
	}
	return master.Record{From: from, Centre: g.number(0, 999), In: in}
}

func (g *strewn) order() api.Order {
	return claim(g.number(1, 12), g.number(1, 3), 1+g.below(60000), g.number(1, 90000))
}

// turn is one call that is no run, and takes none back.
func turn(h *held, g *strewn, around int) {
	h.t.Helper()
	id, from := g.number(1, 6), around+g.below(20)-12
	switch g.below(14) {
	case 0, 1, 2:
		h.rules(g.text())
	case 3:
		h.scheme(g.scheme(), g.number(0, 90000))
	case 4, 5:
		h.hire(id, g.record(from))
	case 6, 7, 8, 9, 10:
		h.change(id, g.record(from))
	case 11:
		h.leave(id, from+g.below(6))
	default:
		h.claim(id, g.order())
	}
}

// next is mostly a period that can be run: behind the last one, and behind the year that is closed.
func (g *strewn) next(h *held, around int) int {
	return max(around+1, 12*h.x.closed+12) + g.below(8)/6 - g.below(12)/11
}

// P19.1 to P19.4: strewn plays, over some years.
func TestStrewnPlays(t *testing.T) {
	errors := map[api.Errno]int{}
	ran, back, fixed, garnished := 0, 0, 0, 0
	for i := range 60 {
		g, h := strewn(i), hold(t)
		if i%6 > 0 {
			h.rules(three)
			h.scheme(steps(), 50000)
			h.hire(3, record(jan-6, 100000, 2000, 3))
		}
		for range 60 {
			around := max(h.x.last(), jan-2)
			for range g.below(4) {
				turn(h, &g, around)
			}
			e := api.OK
			switch n := g.below(20); {
			case n < 3:
				_, e = h.reverse()
				back++
			case n == 3:
				e = h.close(around/12 - 6 + g.below(7))
			default:
				_, e = h.run(g.next(h, around))
				ran++
			}
			errors[e]++
			if e == api.ErrOver {
				h.change(g.below(6)+1, g.record(around+1))
				h.rules(three)
			}
		}
		for _, e := range h.g.Book().Entries {
			fixed += len(e.Fixes)
			for _, n := range e.R.Garnished {
				garnished += min(n, 1)
			}
		}
	}
	if errors[api.OK] < 1000 || errors[api.ErrNone] < 10 || errors[api.ErrOver] < 50 || errors[api.ErrShut] < 50 || fixed < 2000 || garnished < 500 {
		t.Errorf("%d runs, %d taken back, errors %v, %d Fixes, %d garnished", ran, back, errors, fixed, garnished)
	}
}

// both are engines that are told the same, but for runs that only the first one makes, and takes back.
type both [2]*engine.Engine

func (b both) all(t *testing.T, what string, call func(g *engine.Engine) api.Errno) {
	t.Helper()
	if x, y := call(b[0]), call(b[1]); x != y {
		t.Fatalf("%s: %d and %d", what, x, y)
	}
}

// P19.4: a run that is taken back is as if it had never been: whatever follows is the same, but for numbers and for what stands in the book to tell it.
func TestAsIfItHadNeverBeen(t *testing.T) {
	undone, ran := 0, 0
	for i := range 60 {
		g, b := strewn(1000+i), both{engine.New(), engine.New()}
		b.all(t, "Rules", func(g *engine.Engine) api.Errno { _, e := g.Rules(three); return e })
		b.all(t, "Scheme", func(g *engine.Engine) api.Errno { return g.Scheme(steps(), 50000) })
		for range 50 {
			if e := b.turn(t, &g); e != api.OK {
				continue
			}
			undone += b.undone(t, &g, 1+g.below(3))
			next := b[1].Last() + 1 + g.below(5)/4
			if b[1].Last() == 0 {
				next = jan
			}
			b.all(t, "Run", func(g *engine.Engine) api.Errno { _, e := g.Run(next); return e })
			b.isAlike(t)
			ran++
		}
	}
	if undone < 500 || ran < 1000 {
		t.Errorf("%d runs undone, %d run", undone, ran)
	}
}

// turn is one change of what both have; a year is closed seldom.
func (b both) turn(t *testing.T, g *strewn) (e api.Errno) {
	id, r, o, from := 1+g.below(5), g.record(max(b[1].Last(), jan)-4+g.below(8)), g.order(), g.below(20)
	s, text, year := g.scheme(), g.text(), b[1].Last()/12-id // a year ahead of all runs that only the first one has
	b.all(t, "turn", func(one *engine.Engine) api.Errno {
		switch {
		case from < 4:
			e = one.Hire(id, r)
		case from < 12:
			e = one.Change(id, r)
		case from < 14:
			e = one.Leave(id, r.From+6)
		case from < 16:
			e = one.Claim(id, o)
		case from < 17:
			e = one.Scheme(s, 100*id)
		case from < 18:
			_, e = one.Rules(text)
		case from < 19:
			e = one.Close(year)
		}
		return e
	})
	return e
}

// undone are so many runs of the first one alone, with changes between that are made without them, too; and all are taken back.
func (b both) undone(t *testing.T, g *strewn, many int) int {
	t.Helper()
	made := []int{}
	last := max(b[0].Last(), jan-1)
	for range many {
		n, e := b[0].Run(last + 1 + len(made) + g.below(3))
		if e == api.OK {
			made = append(made, n)
		}
		b.turn(t, g)
	}
	for _, want := range slices.Backward(made) {
		if n, e := b[0].Reverse(); n != want || e != api.OK {
			t.Fatalf("Reverse: %d, %d, not %d", n, e, want)
		}
	}
	return len(made)
}

// isAlike: is all that counts in both the same?
func (b both) isAlike(t *testing.T) {
	t.Helper()
	x, y := counts(b[0]), b[1].Book().Entries
	if !slices.EqualFunc(x, y, func(a, b book.Entry) bool { a.Run = b.Run; return sameEntry(a, b) }) {
		t.Fatalf("with runs that are taken back\n%+v, and without\n%+v", x, y)
	}
	if b[0].Last() != b[1].Last() || !samePlan(b[0].Plan(), b[1].Plan()) || !slices.EqualFunc(b[0].Master().People, b[1].Master().People, samePerson) {
		t.Fatalf("Last %d and %d, or what there is, with runs that are taken back, and without", b[0].Last(), b[1].Last())
	}
	for _, who := range b[1].Master().People {
		for year := 2022; year < 2028; year++ {
			u, v := book.Year(b[0].Book(), who.Id, year, 6), book.Year(b[1].Book(), who.Id, year, 6)
			if u.Taxable != v.Taxable || u.Base != v.Base || u.Tax != v.Tax || !slices.Equal(u.Paid, v.Paid) || !slices.Equal(u.Owed, v.Owed) {
				t.Fatalf("the year %d of %d: %+v and %+v", year, who.Id, u, v)
			}
		}
	}
}

// counts are the entries that are live, in order.
func counts(g *engine.Engine) []book.Entry {
	var l []book.Entry
	b := g.Book()
	for at, e := range b.Entries {
		if book.Live(b, at) {
			l = append(l, e)
		}
	}
	return l
}

// R4: the same calls have the same answers, and an engine that was told more first, with errors alone, too.
func TestSameCallsSameAnswers(t *testing.T) {
	for i := range 10 {
		var books [3][]book.Entry
		for j := range books {
			g, h := strewn(2000+i), hold(t)
			if j == 2 {
				h.rules("earn x = ;")
				h.scheme(withhold.Scheme{}, 0)
				h.hire(0, record(jan, 1, 1, 1))
				h.runFails(api.ErrNone, jan)
				h.reverseFails(api.ErrNone)
				h.closes(api.ErrArg, 0)
			}
			h.rules(three)
			h.scheme(steps(), 50000)
			for k := range 12 {
				turn(h, &g, jan)
				h.run(jan + k)
				if j == 2 {
					h.run(jan + k - 1)
					h.rules("earn x = " + strconv.Itoa(k) + ".00")
				}
			}
			books[j] = h.g.Book().Entries
		}
		if !slices.EqualFunc(books[0], books[1], sameEntry) || !slices.EqualFunc(books[0], books[2], sameEntry) {
			t.Fatalf("%+v\n%+v\n%+v", books[0], books[1], books[2])
		}
	}
}
