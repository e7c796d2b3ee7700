package retro_test

import (
	"math/big"
	"reflect"
	"slices"
	"testing"

	"paymaster/api"
	"paymaster/book"
	"paymaster/master"
	"paymaster/result"
	"paymaster/retro"
	"paymaster/tree"
	"paymaster/value"
)

// A second telling, by other means than the package's: people, records and entries are gone through one by one, here; the periods are
// those that entries have, sorted, and their years are reckoned as numbers of any size; Fixes are gathered first, and then added.

// exactInputs are those of the last of all records that may count.
func exactInputs(m master.Master, id int, period int) (value.Inputs, bool) {
	var in value.Inputs
	there := false
	for _, who := range m.People {
		if who.Id != id || period < who.Hired || who.Gone != 0 && period >= who.Gone {
			continue
		}
		for _, r := range who.Records {
			if r.From <= period {
				in, there = r.In, true
			}
		}
	}
	return in, there
}

func exactNow(p tree.Program, m master.Master, id int, period int) (result.Sums, api.Errno) {
	in, there := exactInputs(m, id, period)
	if !there {
		return result.Sums{}, api.OK
	}
	l, _, e := result.Lines(p, in)
	var s result.Sums
	for _, line := range l {
		*map[string]*int{"earn": &s.Gross, "pretax": &s.Pretax, "post": &s.Post}[line.Kind] += line.Amount
	}
	return s, e
}

// exactLives are the entries of an Id that take none back, and that none takes back.
func exactLives(b book.Book, id int) []book.Entry {
	var l []book.Entry
	for at, e := range b.Entries {
		if e.Id == id && e.Back == 0 && !slices.ContainsFunc(b.Entries, func(x book.Entry) bool { return x.Back > 0 && x.Back-1 == at }) {
			l = append(l, e)
		}
	}
	return l
}

// yearOf is the period by 12, cut off towards 0.
func yearOf(period int) int {
	return int(new(big.Int).Quo(big.NewInt(int64(period)), big.NewInt(12)).Int64())
}

// exactPeriods are those of live entries of an Id that are of a period's year and ahead of it, rising.
func exactPeriods(lives []book.Entry, period int) []int {
	var l []int
	for _, e := range lives {
		if e.Period < period && yearOf(e.Period) == yearOf(period) {
			l = append(l, e.Period)
		}
	}
	slices.Sort(l)
	return slices.Compact(l)
}

// exactLeft is what live entries leave of a period's sums: those of the period itself, and all Fixes of it.
func exactLeft(lives []book.Entry, now result.Sums, period int) result.Sums {
	off := []result.Sums{}
	for _, e := range lives {
		if e.Period == period {
			off = append(off, e.R.Raw)
		}
		for _, f := range e.Fixes {
			if f.Period == period {
				off = append(off, f.S)
			}
		}
	}
	for _, s := range off {
		now.Gross, now.Pretax, now.Post = now.Gross-s.Gross, now.Pretax-s.Pretax, now.Post-s.Post
	}
	return now
}

func exactFixes(p tree.Program, m master.Master, b book.Book, id int, period int) ([]book.Fix, api.Errno) {
	var l []book.Fix
	lives := exactLives(b, id)
	for _, at := range exactPeriods(lives, period) {
		now, e := exactNow(p, m, id, at)
		if e != api.OK {
			return nil, e
		}
		if s := exactLeft(lives, now, at); s.Gross != 0 || s.Pretax != 0 || s.Post != 0 {
			l = append(l, book.Fix{Period: at, S: s})
		}
	}
	return l, api.OK
}

// allOf is what Fixes are together.
func allOf(l []book.Fix) result.Sums {
	var s result.Sums
	for _, f := range l {
		s.Gross, s.Pretax, s.Post = s.Gross+f.S.Gross, s.Pretax+f.S.Pretax, s.Post+f.S.Post
	}
	return s
}

// given is what a call is handed; cloned shares nothing with it.
type given struct {
	P tree.Program
	M master.Master
	B book.Book
}

func (g given) cloned() given {
	c := given{tree.Program{Rules: slices.Clone(g.P.Rules), Exprs: slices.Clone(g.P.Exprs)}, master.Master{People: slices.Clone(g.M.People)}, book.Book{Entries: slices.Clone(g.B.Entries)}}
	for i := range c.M.People {
		who := &c.M.People[i]
		who.Records, who.Orders = slices.Clone(who.Records), slices.Clone(who.Orders)
	}
	for i := range c.B.Entries {
		e := &c.B.Entries[i]
		e.R.Lines, e.Fixes = slices.Clone(e.R.Lines), slices.Clone(e.Fixes)
		e.R.Paid, e.R.Owed, e.R.Garnished = slices.Clone(e.R.Paid), slices.Clone(e.R.Owed), slices.Clone(e.R.Garnished)
	}
	return c
}

// holdNow is Now, held against the second telling.
func holdNow(t *testing.T, p tree.Program, m master.Master, id int, period int) (result.Sums, api.Errno) {
	t.Helper()
	before := given{P: p, M: m}.cloned()
	want, f := exactNow(p, m, id, period)
	s, e := retro.Now(p, m, id, period)
	if s != want || e != f {
		t.Fatalf("Now(%v, %d, %d): %v, %d, not %v, %d", m, id, period, s, e, want, f)
	}
	if !reflect.DeepEqual(given{P: p, M: m}, before) {
		t.Fatalf("Now(%v, %d, %d) changed what it was handed", m, id, period)
	}
	return s, e
}

// holdFixes is Fixes, held against the second telling; and, behind an entry that has them, against P18.2.
func holdFixes(t *testing.T, p tree.Program, m master.Master, b book.Book, id int, period int) ([]book.Fix, result.Sums, api.Errno) {
	t.Helper()
	before := given{p, m, b}.cloned()
	want, f := exactFixes(p, m, b, id, period)
	l, all, e := retro.Fixes(p, m, b, id, period)
	if !slices.Equal(l, want) || all != allOf(want) || e != f {
		t.Fatalf("Fixes(%v, %v, %d, %d): %v, %v, %d, not %v, %d", m, b, id, period, l, all, e, want, f)
	}
	if !reflect.DeepEqual(given{p, m, b}, before) {
		t.Fatalf("Fixes(%v, %v, %d, %d) changed what it was handed", m, b, id, period)
	}
	if e == api.OK {
		isPutRight(t, p, m, b, id, period, l)
	}
	return l, all, e
}

// isPutRight: behind an entry that has these Fixes there is nothing more to put right ahead of its period, also as seen from later ones.
func isPutRight(t *testing.T, p tree.Program, m master.Master, b book.Book, id int, period int, l []book.Fix) {
	t.Helper()
	c, e := book.Add(b, book.Entry{Id: id, Period: period, Fixes: l})
	if e != api.OK || !book.Live(c, len(b.Entries)) {
		return // there is one already, or one that came of no call takes it back
	}
	if more, all, e := retro.Fixes(p, m, c, id, period); len(more) != 0 || all != (result.Sums{}) || e != api.OK {
		t.Fatalf("Fixes(%v, %v, %d, %d): %v, %v, %d, behind an entry that has them", m, c, id, period, more, all, e)
	}
	for later := period + 1; later > period && later < period+12; later++ {
		more, _, _ := retro.Fixes(p, m, c, id, later)
		if slices.ContainsFunc(more, func(f book.Fix) bool { return f.Period < period }) {
			t.Fatalf("Fixes(%v, %v, %d, %d): %v, behind an entry of %d that has them", m, c, id, later, more, period)
		}
	}
}
