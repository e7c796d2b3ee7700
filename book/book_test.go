package book_test

import (
	"fmt"
	"math"
	"slices"
	"testing"

	"paymaster/api"
	"paymaster/book"
	"paymaster/result"
	"paymaster/withhold"
)

const (
	jan = 24276 // 2023-01
	dec = 24287 // 2023-12
)

// plain is an entry that tells nothing but who and when.
func plain(id int, period int) book.Entry { return book.Entry{Id: id, Period: period} }

// backs is an entry of the Id 7, with a Back of any kind.
func backs(back int) book.Entry { return book.Entry{Id: 7, Period: jan, Back: back} }

// full is an entry of which each field tells something of its own, n times.
func full(id int, period int, n int) book.Entry {
	return book.Entry{
		Run: 3, Period: period, Id: id, Centre: 44,
		R: result.Result{
			Lines: []result.Line{{Kind: "earn", Name: "pay", Amount: 90000}, {Kind: "post", Name: "meal", Amount: 5}},
			Raw:   result.Sums{Gross: 1 * n, Pretax: 20 * n, Post: 300 * n}, Extra: result.Sums{Gross: 4000 * n, Pretax: 50000 * n, Post: 600000 * n},
			Taxable: 7000000 * n, Tax: 80000000 * n, Taken: 1 << 40, Held: 1 << 41, Net: 1 << 42, Short: 1 << 43,
			Paid: []int{11 * n, 12 * n, 13 * n}, Owed: []int{14 * n, 15 * n, 16 * n}, Garnished: []int{17 * n, 18 * n, 19 * n},
		},
		Fixes: []book.Fix{{Period: period - 1, S: result.Sums{Gross: 7 * n, Pretax: 8 * n, Post: 9 * n}}},
	}
}

func of(l ...book.Entry) book.Book { return book.Book{Entries: l} }

// filled is the book of entries that are added one behind the other, without an error.
func filled(t *testing.T, l ...book.Entry) book.Book {
	t.Helper()
	var b book.Book
	for _, e := range l {
		c, f := add(t, b, e)
		if f != api.OK {
			t.Fatalf("Add(%v, %v): %d", b, e, f)
		}
		b = c
	}
	return b
}

// reversed is b, with those places taken back, without an error.
func reversed(t *testing.T, b book.Book, places ...int) book.Book {
	t.Helper()
	for _, at := range places {
		c, e := holdReverse(t, b, at)
		if e != api.OK {
			t.Fatalf("Reverse(%v, %d): %d", b, at, e)
		}
		b = c
	}
	return b
}

// livesAre: just these places are live.
func livesAre(t *testing.T, b book.Book, want ...int) {
	t.Helper()
	var got []int
	for at := -5; at < len(b.Entries)+5; at++ {
		if book.Live(b, at) {
			got = append(got, at)
		}
	}
	if !slices.Equal(got, want) {
		t.Errorf("live of %v: %v, not %v", b, got, want)
	}
}

func finds(t *testing.T, b book.Book, id int, period int, want int) {
	t.Helper()
	if at := book.Find(b, id, period); at != want {
		t.Errorf("Find(%v, %d, %d): %d, not %d", b, id, period, at, want)
	}
}

func yearIs(t *testing.T, b book.Book, id int, year int, funds int, want withhold.Year) {
	t.Helper()
	if y := book.Year(b, id, year, funds); !sameYear(y, want) {
		t.Errorf("Year(%v, %d, %d, %d): %+v, not %+v", b, id, year, funds, y, want)
	}
	holdYear(t, b, id, year, funds)
}

func knows(t *testing.T, b book.Book, id int, period int, gross, pretax, post int) {
	t.Helper()
	if s := book.Known(b, id, period); s != (result.Sums{Gross: gross, Pretax: pretax, Post: post}) {
		t.Errorf("Known(%v, %d, %d): %+v", b, id, period, s)
	}
	holdKnown(t, b, id, period)
}

// orders have those Balances, and other fields that stay.
func orders(balances ...int) []api.Order {
	var l []api.Order
	for i, n := range balances {
		l = append(l, api.Order{Creditor: 40 + i, Priority: 1 + i, Claim: 1000 + i, Balance: n})
	}
	return l
}

func leaves(t *testing.T, b book.Book, id int, l []api.Order, want ...int) {
	t.Helper()
	if got := book.Balances(b, id, l); !slices.Equal(got, orders(want...)) {
		t.Errorf("Balances(%v, %d, %v): %v, not %v", b, id, l, got, want)
	}
	holdBalances(t, b, id, l)
}

// The chapter's example: what is taken back is not found, and its year is noughts.
func TestExample(t *testing.T) {
	b := filled(t, full(5, jan, 1))
	finds(t, b, 5, jan, 0)
	yearIs(t, b, 5, 2023, 3, withhold.Year{Taxable: 7000000, Base: 4001, Tax: 80000000, Paid: []int{11, 12, 13}, Owed: []int{14, 15, 16}})
	b = reversed(t, b, 0)
	finds(t, b, 5, jan, -1)
	yearIs(t, b, 5, 2023, 3, withhold.Year{Paid: []int{0, 0, 0}, Owed: []int{0, 0, 0}})
}

// P17.1, P17.2: the empty book, whether nil or not.
func TestEmptyBook(t *testing.T) {
	for _, b := range []book.Book{{}, {Entries: []book.Entry{}}, {Entries: make([]book.Entry, 0, 9)}} {
		livesAre(t, b)
		for _, at := range []int{math.MinInt, -1, 0, 1, api.Most} {
			if _, e := holdReverse(t, b, at); e != api.ErrNone || book.Live(b, at) {
				t.Errorf("the empty book at %d: %d", at, e)
			}
		}
		for _, n := range []int{-1, 0, 5, jan} {
			finds(t, b, n, n, -1)
			yearIs(t, b, n, n, 2, withhold.Year{Paid: []int{0, 0}, Owed: []int{0, 0}})
			knows(t, b, n, n, 0, 0, 0)
			leaves(t, b, n, orders(50, -7, 0), 50, -7, 0)
			leaves(t, b, n, nil)
		}
		hold(t, b, []int{0, 5}, []int{0, jan}, orders(1, 2))
		if c, e := add(t, b, full(5, jan, 1)); e != api.OK || !book.Live(c, 0) {
			t.Errorf("the first entry: %v, %d", c, e)
		}
	}
}

// P17.1: entries of several people and periods are added, taken back and added again.
func TestAddAndReverse(t *testing.T) {
	b := filled(t, full(5, jan, 1), full(6, jan, 2), full(5, jan+1, 3), full(6, jan+1, 4))
	livesAre(t, b, 0, 1, 2, 3)
	b = reversed(t, b, 1)
	livesAre(t, b, 0, 2, 3)
	isBook(t, "one taken back", b, full(5, jan, 1), full(6, jan, 2), full(5, jan+1, 3), full(6, jan+1, 4), func() book.Entry { e := full(6, jan, 2); e.Back = 2; return e }())
	finds(t, b, 6, jan, -1)
	finds(t, b, 5, jan, 0)
	finds(t, b, 5, jan+1, 2)
	finds(t, b, 6, jan+1, 3)
	b, e := add(t, b, full(6, jan, 9))
	finds(t, b, 6, jan, 5)
	if livesAre(t, b, 0, 2, 3, 5); e != api.OK {
		t.Errorf("added again: %d", e)
	}
	b = reversed(t, b, 0, 5, 3)
	livesAre(t, b, 2)
	b, _ = add(t, b, full(6, jan, 8))
	b, _ = add(t, b, full(5, jan, 7))
	b = reversed(t, b, 9)
	livesAre(t, b, 2, 10)
	hold(t, b, []int{4, 5, 6}, []int{jan - 1, jan, jan + 1, jan + 2}, orders(1, 2, 3, 4))
}

// P17.1: places below 0 and behind the last; one that takes another one back, and that one; one that is taken back once, and twice.
func TestPlaces(t *testing.T) {
	b := reversed(t, filled(t, plain(5, jan), plain(6, jan), plain(7, jan)), 1)
	for at, want := range map[int]api.Errno{
		math.MinInt: api.ErrNone, -2: api.ErrNone, -1: api.ErrNone, 4: api.ErrNone, 5: api.ErrNone, 1 << 40: api.ErrNone, api.Most: api.ErrNone,
		3: api.ErrArg, 1: api.ErrThere, 0: api.OK, 2: api.OK,
	} {
		if _, e := holdReverse(t, b, at); e != want || book.Live(b, at) != (want == api.OK) {
			t.Errorf("%d: %d, %t", at, e, book.Live(b, at))
		}
	}
	b = reversed(t, b, 0)
	for _, at := range []int{0, 1} {
		if _, e := holdReverse(t, b, at); e != api.ErrThere {
			t.Errorf("%d once more: %d", at, e)
		}
	}
}

// P17.1: Backs of any kind, also such as no call makes.
func TestOddBacks(t *testing.T) {
	for _, x := range []struct {
		b    book.Book
		live []int
		e    []api.Errno // of Reverse, place by place
	}{
		{of(backs(1)), nil, []api.Errno{api.ErrArg}},                                                                      // its own place
		{of(backs(0), backs(2)), []int{0}, []api.Errno{api.OK, api.ErrArg}},                                               // its own place, behind one
		{of(backs(2), backs(0)), nil, []api.Errno{api.ErrArg, api.ErrThere}},                                              // a place behind it
		{of(backs(3), backs(0), backs(0)), []int{1}, []api.Errno{api.ErrArg, api.OK, api.ErrThere}},                       // a place farther behind it
		{of(backs(2)), nil, []api.Errno{api.ErrArg}},                                                                      // a place behind the last
		{of(backs(0), backs(api.Most)), []int{0}, []api.Errno{api.OK, api.ErrArg}},                                        // one far behind the last
		{of(backs(0), backs(-1)), []int{0}, []api.Errno{api.OK, api.ErrArg}},                                              // below 0
		{of(backs(0), backs(-2), backs(math.MinInt), backs(-api.Most)), []int{0}, []api.Errno{0, 1, 1, 1}},                // farther below 0
		{of(backs(0), backs(1), backs(1)), nil, []api.Errno{api.ErrThere, api.ErrArg, api.ErrArg}},                        // two take one back
		{of(backs(0), backs(1), backs(2)), nil, []api.Errno{api.ErrThere, api.ErrArg, api.ErrArg}},                        // one takes back one that takes back
		{of(backs(2), backs(1)), nil, []api.Errno{api.ErrArg, api.ErrArg}},                                                // two that take back each other
		{of(backs(0), backs(0), backs(3), backs(2), backs(0)), []int{0, 4}, []api.Errno{0, api.ErrThere, 1, 1, 0}},        // some of each
		{of(backs(0), book.Entry{Id: 8, Period: 1, Back: 1}), nil, []api.Errno{api.ErrThere, api.ErrArg}},                 // of somebody else, and another period
		{of(backs(1), backs(2), backs(3), backs(0)), []int{3}, []api.Errno{api.ErrArg, api.ErrArg, api.ErrArg, api.OK}},   // own places, one behind the other
		{of(backs(0), backs(0), backs(0), backs(3), backs(1), backs(2)), nil, []api.Errno{6, 6, 6, 1, 1, 1}},              // all are taken back
		{of(backs(5), backs(0), backs(-5), backs(6), backs(0)), []int{1}, []api.Errno{1, api.OK, 1, 1, api.ErrThere}},     // the last one, by the first one
		{of(backs(0), backs(math.MinInt+1), backs(api.Most-1), backs(4), backs(5)), []int{0}, []api.Errno{0, 1, 1, 1, 1}}, // a place just behind the last
	} {
		livesAre(t, x.b, x.live...)
		for at, want := range x.e {
			if _, e := holdReverse(t, x.b, at); e != want {
				t.Errorf("Reverse(%v, %d): %d, not %d", x.b, at, e, want)
			}
		}
		first := -1
		if len(x.live) > 0 {
			first = x.live[0]
		}
		finds(t, x.b, 7, jan, first)
		hold(t, x.b, []int{7, 8}, []int{jan, 1}, orders(1, 2))
	}
}

// P17.1: one whose place an entry ahead of it has as Back is taken back as soon as it is added, and so is one that takes back.
func TestTakenBackAhead(t *testing.T) {
	b, e := add(t, of(backs(2)), plain(7, jan))
	if livesAre(t, b); e != api.OK {
		t.Errorf("Add: %d", e)
	}
	b, e = add(t, b, plain(7, jan))
	if livesAre(t, b, 2); e != api.OK {
		t.Errorf("Add behind it: %d", e)
	}
	livesAre(t, reversed(t, of(backs(0), backs(3), backs(0)), 0))
}

// P17.1: the first live entry of both the Id and the Period, of several of either or of both.
func TestFind(t *testing.T) {
	b := of(plain(5, jan+1), plain(6, jan), plain(5, jan), plain(5, jan), plain(6, jan), plain(jan, 5), plain(5, jan))
	for id, at := range map[int]int{4: -1, 5: 2, 6: 1, 7: -1, 0: -1, -5: -1} {
		finds(t, b, id, jan, at)
	}
	for period, at := range map[int]int{jan - 1: -1, jan: 2, jan + 1: 0, jan + 2: -1, 0: -1, -jan: -1} {
		finds(t, b, 5, period, at)
	}
	finds(t, b, jan, 5, 5)
	finds(t, reversed(t, b, 2), 5, jan, 3)
	finds(t, reversed(t, b, 3), 5, jan, 2)
	finds(t, reversed(t, b, 2, 3), 5, jan, 6)
	finds(t, reversed(t, b, 6, 2, 3), 5, jan, -1)
	finds(t, reversed(t, b, 2, 3, 6, 1), 6, jan, 4)
	for _, n := range []int{math.MinInt, -1, 0, api.Most} {
		finds(t, of(plain(n, jan), plain(5, n), plain(n, n)), n, n, 2)
	}
}

// P17.1: the same Id and Period twice; a Back that is not 0, of one that is there or is not.
func TestWrongEntries(t *testing.T) {
	b := filled(t, full(5, jan, 1), full(6, jan, 1), full(5, jan+1, 1))
	for _, e := range []book.Entry{full(5, jan, 1), full(5, jan, 2), plain(5, jan), {Run: 9, Id: 5, Period: jan, Centre: 8}} {
		if _, f := add(t, b, e); f != api.ErrThere {
			t.Errorf("twice: %d", f)
		}
	}
	for _, back := range []int{math.MinInt, -2, -1, 1, 2, 3, 4, 5, 99, api.Most} {
		for _, e := range []book.Entry{full(5, jan, 1), full(5, jan+2, 1), plain(9, jan)} {
			e.Back = back
			if _, f := add(t, b, e); f != api.ErrArg {
				t.Errorf("a Back of %d: %d", back, f)
			}
			if _, f := add(t, book.Book{}, e); f != api.ErrArg {
				t.Errorf("a Back of %d, in the empty book: %d", back, f)
			}
		}
	}
	for _, e := range []book.Entry{full(6, jan+1, 1), plain(5, jan-1), plain(4, jan), plain(7, jan), plain(-5, jan), plain(5, -jan), {}, {Run: -1, Id: math.MinInt, Period: math.MinInt, Centre: -1}} {
		if _, f := add(t, b, e); f != api.OK {
			t.Errorf("%+v: %d", e, f)
		}
	}
}

// P17.2: Year adds Taxable, Gross of Raw and Extra, Tax, and each fund, of all live entries of the Id and the year.
func TestYear(t *testing.T) {
	b := filled(t, full(5, jan-1, 1), full(5, jan, 10), full(6, jan, 100), full(5, jan+1, 1000), full(5, dec, 10000), full(5, dec+1, 1), full(6, dec, 200))
	yearIs(t, b, 5, 2023, 3, withhold.Year{Taxable: 77070000000, Base: 44051010, Tax: 880800000000, Paid: []int{121110, 132120, 143130}, Owed: []int{154140, 165150, 176160}})
	yearIs(t, b, 6, 2023, 2, withhold.Year{Taxable: 2100000000, Base: 1200300, Tax: 24000000000, Paid: []int{3300, 3600}, Owed: []int{4200, 4500}})
	one := withhold.Year{Taxable: 7000000, Base: 4001, Tax: 80000000, Paid: []int{11}, Owed: []int{14}}
	yearIs(t, b, 5, 2022, 1, one)
	yearIs(t, b, 5, 2024, 1, one)
	for _, year := range []int{-2023, 0, 2021, 2025, jan} {
		yearIs(t, b, 5, year, 1, withhold.Year{Paid: []int{0}, Owed: []int{0}})
	}
	yearIs(t, b, 7, 2023, 1, withhold.Year{Paid: []int{0}, Owed: []int{0}})
	b = reversed(t, b, 3, 4)
	yearIs(t, b, 5, 2023, 1, withhold.Year{Taxable: 70000000, Base: 40010, Tax: 800000000, Paid: []int{110}, Owed: []int{140}})
	b, _ = add(t, b, full(5, dec, -10))
	yearIs(t, b, 5, 2023, 1, withhold.Year{Paid: []int{0}, Owed: []int{0}})
	b, _ = add(t, b, full(5, jan+1, -1))
	yearIs(t, b, 5, 2023, 1, withhold.Year{Taxable: -7000000, Base: -4001, Tax: -80000000, Paid: []int{-11}, Owed: []int{-14}})
}

// P17.2: so many funds: below 0 as 0, more than 6 as 6; of entries that have fewer, of either list, noughts; of those that have more, not these.
func TestFunds(t *testing.T) {
	e := plain(5, jan)
	e.R.Paid, e.R.Owed = []int{1, 2, 3, 4, 5, 6, 7, 8}, []int{10, 20}
	few := plain(5, jan+1)
	few.R.Paid, few.R.Owed = []int{100}, []int{1000, 2000, 3000, 4000, 5000, 6000, 7000}
	b := filled(t, e, few, plain(5, jan+2))
	paid, owed := []int{101, 2, 3, 4, 5, 6}, []int{1010, 2020, 3000, 4000, 5000, 6000}
	for funds, count := range map[int]int{math.MinInt: 0, -7: 0, -1: 0, 0: 0, 1: 1, 2: 2, 3: 3, 4: 4, 5: 5, 6: 6, 7: 6, 8: 6, 99: 6, 1 << 50: 6, api.Most: 6} {
		yearIs(t, b, 5, 2023, funds, withhold.Year{Paid: paid[:count], Owed: owed[:count]})
		yearIs(t, b, 6, 2023, funds, withhold.Year{Paid: make([]int, count), Owed: make([]int, count)})
		yearIs(t, book.Book{}, 5, 2023, funds, withhold.Year{Paid: make([]int, count), Owed: make([]int, count)})
	}
}

// P17.2: the year of a Period, by 12, what is left over cut off, towards 0, so that the year 0 has 23 of them.
func TestYearOfPeriod(t *testing.T) {
	for period, year := range map[int]int{
		0: 0, 1: 0, 11: 0, 12: 1, 13: 1, 23: 1, 24: 2, -1: 0, -11: 0, -12: -1, -13: -1, -23: -1, -24: -2, -25: -2,
		jan - 1: 2022, jan: 2023, jan + 5: 2023, dec: 2023, dec + 1: 2024, -jan: -2023, -dec: -2023, -dec - 1: -2024, 1 - jan: -2022,
		api.Most: 768614336404564650, -api.Most: -768614336404564650, math.MinInt: -768614336404564650,
	} {
		b := of(plain(5, period))
		b.Entries[0].R.Taxable = 9
		for _, y := range []int{year - 1, year, year + 1, -year, period} {
			want := withhold.Year{}
			if y == year {
				want.Taxable = 9
			}
			yearIs(t, b, 5, y, 0, want)
		}
	}
	var b book.Book
	for period := -30; period <= 30; period++ {
		e := plain(5, period)
		e.R.Tax = 1
		b, _ = add(t, b, e)
	}
	for year, count := range map[int]int{-3: 0, -2: 7, -1: 12, 0: 23, 1: 12, 2: 7, 3: 0} {
		yearIs(t, b, 5, year, 0, withhold.Year{Tax: count})
	}
}

// P17.2: Known adds the Raw of the period, without its Extra, and the Fixes of it, in entries of whatever period.
func TestKnown(t *testing.T) {
	fix := func(e book.Entry, periods ...int) book.Entry {
		e.Fixes = nil
		for i, p := range periods {
			e.Fixes = append(e.Fixes, book.Fix{Period: p, S: result.Sums{Gross: 1000 << i, Pretax: 10000 << i, Post: -7 << i}})
		}
		return e
	}
	b := filled(t, fix(full(5, jan, 1)), fix(full(5, jan+1, 2), jan), fix(full(6, jan, 100)), fix(full(6, jan+1, 100), jan, jan+1))
	knows(t, b, 5, jan, 1001, 10020, 293)
	knows(t, b, 5, jan+1, 2, 40, 600)
	knows(t, b, 5, jan+2, 0, 0, 0)
	knows(t, b, 6, jan, 1100, 12000, 29993)
	knows(t, b, 6, jan+1, 2100, 22000, 29986)
	knows(t, b, 7, jan, 0, 0, 0)
	knows(t, b, 6, 0, 0, 0, 0)
	again, _ := add(t, b, fix(plain(5, jan+2), jan, jan, jan+1, jan+2, jan+9, jan, 0, -jan))
	knows(t, again, 5, jan, 1001+35000, 10020+350000, 293-7*35)
	knows(t, again, 5, jan+1, 4002, 40040, 600-28)
	knows(t, again, 5, jan+2, 8000, 80000, -56)
	knows(t, again, 5, jan+9, 16000, 160000, -112)
	knows(t, again, 5, 0, 64000, 640000, -448)
	knows(t, again, 5, -jan, 128000, 1280000, -896)
	knows(t, again, 6, jan, 1100, 12000, 29993)
	knows(t, reversed(t, again, 4), 5, jan, 1001, 10020, 293)
	knows(t, reversed(t, again, 4, 1), 5, jan, 1, 20, 300)
	knows(t, reversed(t, again, 4, 0), 5, jan, 1000, 10000, -7)
	knows(t, reversed(t, again, 4, 0, 1), 5, jan, 0, 0, 0)
}

// P17.2: Known and Year add all there are, where a book has several live ones of an Id and a Period.
func TestSeveralOfOnePeriod(t *testing.T) {
	b := of(full(5, jan, 1), full(5, jan, 20), full(5, jan+1, 300), full(5, jan, 4000))
	knows(t, b, 5, jan, 4021+2100, 80420+2400, 1206300+2700)
	yearIs(t, b, 5, 2023, 1, withhold.Year{Taxable: 7000000 * 4321, Base: 4001 * 4321, Tax: 80000000 * 4321, Paid: []int{11 * 4321}, Owed: []int{14 * 4321}})
	leaves(t, b, 5, orders(100000), 100000-17*4321)
	b = reversed(t, b, 1)
	knows(t, b, 5, jan, 4001+2100, 80020+2400, 1200300+2700)
	leaves(t, b, 5, orders(100000), 100000-17*4301)
	hold(t, b, []int{5, 6}, []int{jan - 1, jan, jan + 1}, orders(1, 2, 3, 4))
}

// P17.2: Balances takes off what Garnished has of each order's place, of all periods; nothing for places that entries do not have.
func TestBalances(t *testing.T) {
	garnished := func(id int, period int, l ...int) book.Entry {
		e := plain(id, period)
		e.R.Garnished = l
		return e
	}
	b := filled(t, garnished(5, jan, 1, 20, 300), garnished(6, jan, 7000), garnished(5, 0), garnished(5, -jan, 2), garnished(5, dec+50, 0, 30, -5))
	leaves(t, b, 5, orders(1000, 2000, 3000, 4000), 997, 1950, 2705, 4000)
	leaves(t, b, 5, orders(1000, 2000, 3000), 997, 1950, 2705)
	leaves(t, b, 5, orders(1000, 2000), 997, 1950)
	leaves(t, b, 5, orders(1000), 997)
	leaves(t, b, 5, orders())
	leaves(t, b, 5, []api.Order{})
	leaves(t, b, 5, orders(3, 49, 0, -4), 0, -1, -295, -4) // below 0, too
	leaves(t, b, 6, orders(1000, 2000), -6000, 2000)
	leaves(t, b, 7, orders(1000, 2000), 1000, 2000)
	leaves(t, reversed(t, b, 0), 5, orders(1000, 2000, 3000, 4000), 998, 1970, 3005, 4000)
	leaves(t, reversed(t, b, 0, 3, 4), 5, orders(1000, 2000, 3000, 4000), 1000, 2000, 3000, 4000)
	many := garnished(8, jan, 1, 2, 3, 4, 5, 6, 7, 8, 9, 10)
	leaves(t, filled(t, many), 8, orders(0, 0, 0, 0, 0, 0, 0, 0, 0, 0, 0), -1, -2, -3, -4, -5, -6, -7, -8, -9, -10, 0)
}

// P17.3: what is taken back is as if it had never been: a book in which much was is told as one in which only the rest is.
func TestAsIfNever(t *testing.T) {
	stays := []book.Entry{full(5, jan, 1), full(6, jan+1, 2), full(5, jan+2, 3)}
	never := filled(t, stays...)
	was := reversed(t, filled(t, full(5, jan, 70), stays[1], full(5, jan+1, 80), full(6, jan, 90), full(5, jan+2, 95)), 0, 2, 4, 3)
	was, _ = add(t, was, stays[2])
	was, _ = add(t, was, stays[0])
	for _, id := range []int{5, 6, 7} {
		for period := jan - 2; period < jan+4; period++ {
			if a, b := book.Find(was, id, period), book.Find(never, id, period); (a < 0) != (b < 0) || a >= 0 && !same(was.Entries[a], never.Entries[b]) {
				t.Errorf("Find(%d, %d): %d, and %d as if it had never been", id, period, a, b)
			}
			if a, b := book.Known(was, id, period), book.Known(never, id, period); a != b {
				t.Errorf("Known(%d, %d): %v, and %v as if it had never been", id, period, a, b)
			}
		}
		if a, b := book.Year(was, id, 2023, 3), book.Year(never, id, 2023, 3); !sameYear(a, b) {
			t.Errorf("Year(%d): %v, and %v as if it had never been", id, a, b)
		}
		if a, b := book.Balances(was, id, orders(9, 9, 9)), book.Balances(never, id, orders(9, 9, 9)); !slices.Equal(a, b) {
			t.Errorf("Balances(%d): %v, and %v as if it had never been", id, a, b)
		}
	}
}

// R1, R3: two books that go on from one book don't touch each other, nor it, nor what lies behind its entries.
func TestTwoBooksOfOne(t *testing.T) {
	l := []book.Entry{full(5, jan, 1), full(6, jan, 2), full(7, jan, 71), full(8, jan, 72)}
	b := of(l[:2]...)
	one, _ := add(t, b, full(9, jan, 3))
	two, _ := add(t, b, full(10, jan, 4))
	three, back := reversed(t, b, 0), full(5, jan, 1)
	four, _ := add(t, one, full(11, jan, 5))
	five, _ := add(t, one, full(12, jan, 6))
	back.Back = 1
	isBook(t, "what lies behind", of(l...), full(5, jan, 1), full(6, jan, 2), full(7, jan, 71), full(8, jan, 72))
	isBook(t, "one", one, l[0], l[1], full(9, jan, 3))
	isBook(t, "two", two, l[0], l[1], full(10, jan, 4))
	isBook(t, "three", three, l[0], l[1], back)
	isBook(t, "four", four, l[0], l[1], full(9, jan, 3), full(11, jan, 5))
	isBook(t, "five", five, l[0], l[1], full(9, jan, 3), full(12, jan, 6))
}

// wipe writes into each list of an entry.
func wipe(e book.Entry) {
	clear(e.R.Lines)
	clear(e.R.Paid)
	clear(e.R.Owed)
	clear(e.R.Garnished)
	clear(e.Fixes)
}

// R1: no two lists that are answered share memory, nor does the entry that is behind share any with one that was handed in.
func TestNothingShared(t *testing.T) {
	e := full(5, jan, 1)
	b, _ := book.Add(book.Book{}, e)
	wipe(e)
	isBook(t, "the entry that was handed in is written to", b, full(5, jan, 1))
	c, _ := book.Reverse(b, 0)
	wipe(c.Entries[1])
	isBook(t, "the one that takes back is written to", of(c.Entries[0]), full(5, jan, 1))
	y, l := book.Year(b, 5, 2023, 3), orders(100, 200, 300)
	y.Paid[0], y.Paid[1], y.Paid[2] = -1, -1, -1
	if !slices.Equal(y.Owed, []int{14, 15, 16}) {
		t.Errorf("Owed is written to by Paid: %v", y)
	}
	clear(book.Balances(b, 5, l))
	clear(book.Balances(book.Book{}, 5, l))
	if !slices.Equal(l, orders(100, 200, 300)) {
		t.Errorf("the orders are written to: %v", l)
	}
	yearIs(t, b, 5, 2023, 1, withhold.Year{Taxable: 7000000, Base: 4001, Tax: 80000000, Paid: []int{11}, Owed: []int{14}})
}

// P1: no call panics, and each ends, whatever it is handed; sums that are ints are told to the last one, be what is added however far.
func TestOddArguments(t *testing.T) {
	odd := []int{math.MinInt, -api.Most, -1 << 50, -13, -12, -1, 0, 1, 2, 3, 5, 12, jan, 1 << 50, api.Most - 1, api.Most}
	var b book.Book
	for i, n := range odd {
		m := odd[len(odd)-1-i]
		e := full(5, n, 1)
		e.Run, e.Centre, e.Back = n, m, odd[(i*7)%len(odd)]
		e.R.Raw, e.R.Extra = result.Sums{Gross: n, Pretax: m, Post: n}, result.Sums{Gross: m, Pretax: n, Post: m}
		e.R.Taxable, e.R.Tax = n, m
		e.R.Paid, e.R.Owed, e.R.Garnished = []int{n, m, n, m, n, m, n}[:i%8%7], []int{m, n}, []int{n, n, m}[:i%4]
		e.Fixes = []book.Fix{{Period: n, S: result.Sums{Gross: m}}, {Period: m, S: result.Sums{Post: n}}, {Period: jan, S: result.Sums{Pretax: m}}}
		add(t, b, e)
		b.Entries = append(b.Entries, e)
		e.Id, e.Back = n, 0
		b.Entries = append(b.Entries, e)
	}
	hold(t, b, append(slices.Clone(odd), 5), odd, orders(odd...))
	for _, n := range odd {
		for _, m := range odd {
			holdYear(t, b, n, m, n)
			holdYear(t, b, 5, n, m)
			add(t, b, plain(n, m))
		}
		holdReverse(t, b, n)
		if book.Live(b, n) != exactLive(b, n) {
			t.Errorf("Live(%d)", n)
		}
	}
}

// P1: a book of very many entries of one Id and Period, all but the last one of which are taken back.
func TestLongBook(t *testing.T) {
	const count = 60000
	var l []book.Entry
	for i := range count {
		l = append(l, plain(5, jan), book.Entry{Id: 5, Period: jan, Back: 2*i + 1})
	}
	b := of(append(l, full(5, jan, 1))...)
	finds(t, b, 5, jan, 2*count)
	if y := book.Year(b, 5, 2023, 1); fmt.Sprint(y) != "{7000000 4001 80000000 [11] [14]}" {
		t.Errorf("Year: %v", y)
	}
	if s := book.Known(b, 5, jan); s != (result.Sums{Gross: 1, Pretax: 20, Post: 300}) {
		t.Errorf("Known: %v", s)
	}
	if _, e := book.Add(b, plain(5, jan)); e != api.ErrThere {
		t.Errorf("Add: %d", e)
	}
	if c, e := book.Reverse(b, 2*count); e != api.OK || book.Find(c, 5, jan) != -1 {
		t.Errorf("Reverse: %d", e)
	}
}
