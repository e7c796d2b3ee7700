package book_test

import (
	"math/big"
	"reflect"
	"slices"
	"testing"

	"paymaster/api"
	"paymaster/book"
	"paymaster/result"
	"paymaster/withhold"
)

// A second telling, by other means than the package's: each entry is asked by itself whether any other one takes it back; what is
// added is gathered first, and then added as numbers of any size.

// exactLive: does the entry at a place take none back, and does none take it back?
func exactLive(b book.Book, at int) bool {
	for place, e := range b.Entries {
		if place != at {
			continue
		}
		return e.Back == 0 && !slices.ContainsFunc(b.Entries, func(x book.Entry) bool { return x.Back-1 == place && x.Back > 0 })
	}
	return false
}

// exactOf are the live entries of an Id that are such.
func exactOf(b book.Book, id int, such func(e book.Entry) bool) []book.Entry {
	var l []book.Entry
	for at, e := range b.Entries {
		if e.Id == id && such(e) && exactLive(b, at) {
			l = append(l, e)
		}
	}
	return l
}

func whichever(book.Entry) bool { return true }

func exactFind(b book.Book, id int, period int) int {
	for at, e := range b.Entries {
		if e.Id == id && e.Period == period && exactLive(b, at) {
			return at
		}
	}
	return -1
}

// added is the sum of what each of l is asked for.
func added[T any](l []T, ask func(x T) int) *big.Int {
	n := new(big.Int)
	for _, x := range l {
		n.Add(n, big.NewInt(int64(ask(x))))
	}
	return n
}

// at is what a list has at a place, or a nought.
func at(l []int, i int) int {
	return append(slices.Clone(l), make([]int, i+1)...)[i]
}

// isSum: is that the sum? Of a sum that is no int nothing is asked.
func isSum(got int, want *big.Int) bool {
	return !want.IsInt64() || want.Int64() == int64(got)
}

// yearOf: the year's number, without the language's own way to cut off.
func yearOf(period int) int {
	n, d := big.NewInt(int64(period)), big.NewInt(12)
	years := new(big.Int).Div(new(big.Int).Abs(n), d)
	if n.Sign() < 0 {
		years.Neg(years)
	}
	return int(years.Int64())
}

// holdYear holds Year against the second telling.
func holdYear(t *testing.T, b book.Book, id int, year int, funds int) {
	t.Helper()
	y := book.Year(b, id, year, funds)
	l := exactOf(b, id, func(e book.Entry) bool { return yearOf(e.Period) == year })
	count := []int{0, 0, 1, 2, 3, 4, 5, 6, 6}[min(max(funds, -1), 7)+1]
	if len(y.Paid) != count || len(y.Owed) != count {
		t.Fatalf("Year(%v, %d, %d, %d) = %+v: not %d funds", b, id, year, funds, y, count)
	}
	base := added(l, func(e book.Entry) int { return e.R.Raw.Gross })
	base.Add(base, added(l, func(e book.Entry) int { return e.R.Extra.Gross }))
	right := isSum(y.Base, base)
	right = isSum(y.Taxable, added(l, func(e book.Entry) int { return e.R.Taxable })) && right
	right = isSum(y.Tax, added(l, func(e book.Entry) int { return e.R.Tax })) && right
	for i := range count {
		right = isSum(y.Paid[i], added(l, func(e book.Entry) int { return at(e.R.Paid, i) })) && right
		right = isSum(y.Owed[i], added(l, func(e book.Entry) int { return at(e.R.Owed, i) })) && right
	}
	if !right {
		t.Fatalf("Year(%v, %d, %d, %d) = %+v, of %v", b, id, year, funds, y, l)
	}
}

// holdKnown holds Known against the second telling.
func holdKnown(t *testing.T, b book.Book, id int, period int) {
	t.Helper()
	var l []result.Sums
	for _, e := range exactOf(b, id, func(e book.Entry) bool { return e.Period == period }) {
		l = append(l, e.R.Raw)
	}
	for _, e := range exactOf(b, id, whichever) {
		for _, f := range e.Fixes {
			if f.Period == period {
				l = append(l, f.S)
			}
		}
	}
	s := book.Known(b, id, period)
	right := isSum(s.Gross, added(l, func(s result.Sums) int { return s.Gross }))
	right = isSum(s.Pretax, added(l, func(s result.Sums) int { return s.Pretax })) && right
	right = isSum(s.Post, added(l, func(s result.Sums) int { return s.Post })) && right
	if !right {
		t.Fatalf("Known(%v, %d, %d) = %+v, of %v", b, id, period, s, l)
	}
}

// holdBalances holds Balances against the second telling.
func holdBalances(t *testing.T, b book.Book, id int, orders []api.Order) {
	t.Helper()
	before := slices.Clone(orders)
	got := book.Balances(b, id, orders)
	right := len(got) == len(orders) && slices.Equal(orders, before)
	for i, o := range orders {
		want := added(exactOf(b, id, whichever), func(e book.Entry) int { return at(e.R.Garnished, i) })
		right = right && isSum(got[i].Balance, want.Sub(big.NewInt(int64(o.Balance)), want))
		o.Balance = got[i].Balance
		right = right && o == got[i]
	}
	if !right {
		t.Fatalf("Balances(%v, %d, %v) = %v, of orders that were %v", b, id, orders, got, before)
	}
}

// hold holds all that may be asked of a book against the second telling.
func hold(t *testing.T, b book.Book, ids []int, periods []int, orders []api.Order) {
	t.Helper()
	before := copyOf(b)
	for at := -2; at < len(b.Entries)+3; at++ {
		if got, want := book.Live(b, at), exactLive(b, at); got != want {
			t.Errorf("Live(%v, %d): %t", b, at, got)
		}
		holdReverse(t, b, at)
	}
	for _, id := range ids {
		for _, period := range periods {
			if got, want := book.Find(b, id, period), exactFind(b, id, period); got != want {
				t.Errorf("Find(%v, %d, %d): %d, not %d", b, id, period, got, want)
			}
			holdKnown(t, b, id, period)
			holdYear(t, b, id, yearOf(period), len(orders))
		}
		holdBalances(t, b, id, orders)
	}
	if !sameBook(b, before) {
		t.Fatalf("the book changed: %v, was %v", b, before)
	}
}

// same: a list that is nil and one that is empty are the same.
func same(a, b book.Entry) bool {
	lists := slices.Equal(a.R.Lines, b.R.Lines) && slices.Equal(a.Fixes, b.Fixes) &&
		slices.Equal(a.R.Paid, b.R.Paid) && slices.Equal(a.R.Owed, b.R.Owed) && slices.Equal(a.R.Garnished, b.R.Garnished)
	return lists && reflect.DeepEqual(bare(a), bare(b))
}

// bare is an entry without its lists.
func bare(e book.Entry) book.Entry {
	e.R.Lines, e.R.Paid, e.R.Owed, e.R.Garnished, e.Fixes = nil, nil, nil, nil, nil
	return e
}

func sameBook(a, b book.Book) bool { return slices.EqualFunc(a.Entries, b.Entries, same) }

// copyOf shares nothing with b.
func copyOf(b book.Book) book.Book {
	c := book.Book{Entries: slices.Clone(b.Entries)}
	for i := range c.Entries {
		e := &c.Entries[i]
		e.R.Lines, e.Fixes = slices.Clone(e.R.Lines), slices.Clone(e.Fixes)
		e.R.Paid, e.R.Owed, e.R.Garnished = slices.Clone(e.R.Paid), slices.Clone(e.R.Owed), slices.Clone(e.R.Garnished)
	}
	return c
}

func sameYear(a, b withhold.Year) bool {
	return a.Taxable == b.Taxable && a.Base == b.Base && a.Tax == b.Tax && slices.Equal(a.Paid, b.Paid) && slices.Equal(a.Owed, b.Owed)
}

// isBook: is a book told as these entries?
func isBook(t *testing.T, what string, b book.Book, want ...book.Entry) {
	t.Helper()
	if !slices.EqualFunc(b.Entries, want, same) {
		t.Fatalf("%s: %+v, not %+v", what, b, want)
	}
}

// add is Add, held against what P17.1 asks for.
func add(t *testing.T, b book.Book, e book.Entry) (book.Book, api.Errno) {
	t.Helper()
	before := copyOf(of(append(slices.Clone(b.Entries), e)...))
	want, f := slices.Clone(b.Entries), api.OK
	switch {
	case e.Back != 0:
		f = api.ErrArg
	case exactFind(b, e.Id, e.Period) != -1:
		f = api.ErrThere
	default:
		want = append(want, e)
	}
	c, got := book.Add(b, e)
	if got != f || !slices.EqualFunc(c.Entries, want, same) {
		t.Fatalf("Add(%v, %+v): %v, %d, not %v, %d", b, e, c, got, want, f)
	}
	if !slices.EqualFunc(append(slices.Clone(b.Entries), e), before.Entries, same) {
		t.Fatalf("Add changed what it was handed: %v, %v, was %v", b, e, before)
	}
	return c, f
}

// holdReverse is Reverse, held against what P17.1 asks for.
func holdReverse(t *testing.T, b book.Book, at int) (book.Book, api.Errno) {
	t.Helper()
	before := copyOf(b)
	want, f := slices.Clone(b.Entries), api.OK
	switch {
	case at < 0 || at >= len(b.Entries):
		f = api.ErrNone
	case b.Entries[at].Back != 0:
		f = api.ErrArg
	case !exactLive(b, at):
		f = api.ErrThere
	default:
		last := b.Entries[at]
		last.Back = at + 1
		want = append(want, last)
	}
	c, got := book.Reverse(b, at)
	if got != f || !slices.EqualFunc(c.Entries, want, same) {
		t.Fatalf("Reverse(%v, %d): %v, %d, not %v, %d", b, at, c, got, want, f)
	}
	if !sameBook(b, before) {
		t.Fatalf("Reverse changed the book: %v, was %v", b, before)
	}
	return c, f
}
