package retro_test

import (
	"slices"
	"testing"

	"paymaster/api"
	"paymaster/book"
	"paymaster/master"
	"paymaster/result"
	"paymaster/tree"
)

// Strewn plays: months are put down with the Fixes that are there, and taken back, while people and rules change behind them; what was
// put down is held against what counts now. And strewn books of any kind, held against the second telling.

type strewn uint64

func (g *strewn) below(n int) int {
	*g = *g*6364136223846793005 + 1442695040888963407
	return int(*g>>33) % n
}

// sums are few, so that now and then they are right.
func (g *strewn) sums() result.Sums {
	return sums(g.below(4)-1, g.below(2), g.below(3)*100)
}

// rules are several, one of which takes no great base.
var rules = [...]string{
	three,
	"earn pay = base * 2; pretax plan = bonus; post meal = 3.00;",
	"earn pay = base * 33;",
	"let share = if lead then 10.00% else 5.00%; earn pay = base; earn more = bonus * days; pretax plan = base * share; post back = -bonus;",
	"",
}

// play is what there is after some steps.
type play struct {
	g    strewn
	p    tree.Program
	m    master.Master
	b    book.Book
	runs [][]int // the places of the entries of each run that counts
	last []int   // their periods
}

func (y *play) record() master.Record {
	r := record(jan-2+y.g.below(26), y.g.below(90)*100, y.g.below(4), y.g.below(3))
	r.In.Lead = y.g.below(2) == 0
	if y.g.below(12) == 0 {
		r.In.Base = most - y.g.below(9)
	}
	return r
}

// turn is one change of people or rules; one that can't be made changes nothing.
func (y *play) turn(t *testing.T) {
	id := 5 + y.g.below(4)
	switch y.g.below(8) {
	case 0, 1:
		y.m, _ = master.Hire(y.m, id, y.record())
	case 2, 3, 4, 5:
		y.m, _ = master.Change(y.m, id, y.record())
	case 6:
		y.m, _ = master.Leave(y.m, id, jan+y.g.below(24))
	case 7:
		y.p = read(t, rules[y.g.below(len(rules))])
	}
}

// run puts a period down for all who work in it, or for nobody, if there is an error of one.
func (y *play) run(t *testing.T, period int) api.Errno {
	t.Helper()
	b, places := y.b, []int{}
	for _, id := range master.Staff(y.m, period) {
		l, extra, e := holdFixes(t, y.p, y.m, b, id, period)
		if e != api.OK {
			return e
		}
		now, e := holdNow(t, y.p, y.m, id, period)
		if e != api.OK {
			return e
		}
		entry := put(id, period, now, l...)
		entry.R.Extra = extra
		places = append(places, len(b.Entries))
		b = with(t, b, entry)
	}
	y.b, y.runs, y.last = b, append(y.runs, places), append(y.last, period)
	for _, at := range places {
		y.isPaid(t, y.b.Entries[at].Id, period)
	}
	return api.OK
}

// isPaid: what was put down for somebody in the year, with what comes from elsewhere, is just what counts now of their periods that were put down.
func (y *play) isPaid(t *testing.T, id int, period int) {
	t.Helper()
	var paid, due []book.Fix
	for _, e := range exactLives(y.b, id) {
		if yearOf(e.Period) != yearOf(period) {
			continue
		}
		now, _ := exactNow(y.p, y.m, id, e.Period)
		paid = append(paid, book.Fix{S: e.R.Raw}, book.Fix{S: e.R.Extra})
		due = append(due, book.Fix{S: now})
	}
	if allOf(paid) != allOf(due) {
		t.Fatalf("%d was put down with %v in the year of %d, and %v counts now: %v", id, allOf(paid), period, allOf(due), y.b)
	}
}

// back takes the last run back.
func (y *play) back(t *testing.T) {
	t.Helper()
	if n := len(y.runs) - 1; n >= 0 {
		y.b = reversed(t, y.b, y.runs[n]...)
		y.runs, y.last = y.runs[:n], y.last[:n]
	}
}

// next is a period behind the last one that was run; now and then one or two are left out.
func (y *play) next() int {
	next := jan - 2
	if n := len(y.last); n > 0 {
		next = y.last[n-1] + 1
	}
	return next + y.g.below(6)/4
}

// P18.1, P18.2: strewn plays.
func TestStrewnPlays(t *testing.T) {
	ran, failed, fixed := 0, 0, 0
	for i := range 60 {
		y := play{g: strewn(i), p: read(t, rules[i%len(rules)])}
		for range 30 {
			for range y.g.below(4) {
				y.turn(t)
			}
			if y.g.below(5) == 0 {
				y.back(t)
			} else if e := y.run(t, y.next()); e != api.OK {
				failed++
			} else {
				ran++
			}
		}
		for id := 4; id < 10; id++ {
			for period := jan - 4; period < jan+40; period++ {
				holdFixes(t, y.p, y.m, y.b, id, period)
				holdNow(t, y.p, y.m, id, period)
			}
		}
		for _, e := range y.b.Entries {
			fixed += len(e.Fixes)
		}
	}
	if ran < 1000 || failed < 20 || fixed < 1000 {
		t.Errorf("%d runs, %d errors, %d Fixes", ran, failed, fixed)
	}
}

// P18.1, P18.2: strewn books of any kind, also such as no calls make.
func TestStrewnBooks(t *testing.T) {
	g, fixed, right := strewn(18), 0, 0
	for i := range 300 {
		from := []int{jan - 3, jan, -7, -30}[i%4]
		m := hired(t, master.Master{}, 5, record(jan-2+g.below(5), g.below(3), g.below(2), g.below(3)))
		m = changed(t, m, 5, record(jan+3+g.below(9), g.below(3), 0, 0))
		var b book.Book
		count := g.below(24)
		for range count {
			e := put(5+g.below(2), from+g.below(15), g.sums())
			for range g.below(4) {
				e.Fixes = append(e.Fixes, book.Fix{Period: from + g.below(15), S: g.sums()})
			}
			if g.below(3) == 0 {
				e.Back = g.below(count+5) - 2
			}
			b.Entries = append(b.Entries, e)
		}
		for id := 4; id < 8; id++ {
			for period := from - 1; period < from+17; period++ {
				l, _, _ := holdFixes(t, read(t, rules[i%len(rules)]), m, b, id, period)
				fixed += len(l)
				right += len(exactPeriods(exactLives(b, id), period)) - len(l)
			}
		}
		if slices.ContainsFunc(b.Entries, func(e book.Entry) bool { return e.Centre != 77 }) {
			t.Fatalf("the book is written to: %v", b)
		}
	}
	if fixed < 3000 || right < 100 {
		t.Errorf("%d Fixes, %d right", fixed, right)
	}
}
