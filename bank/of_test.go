package bank_test

import (
	"fmt"
	"math"
	"slices"
	"testing"

	"paymaster/api"
	"paymaster/bank"
	"paymaster/book"
	"paymaster/master"
	"paymaster/result"
)

// hired is a master of those Ids, each with orders of these creditors.
func hired(t *testing.T, people map[int][]int) master.Master {
	t.Helper()
	var m master.Master
	var e api.Errno
	for id, creditors := range people {
		if m, e = master.Hire(m, id, master.Record{From: jan}); e != api.OK {
			t.Fatalf("Hire: %d", e)
		}
		for _, n := range creditors {
			if m, e = master.Claim(m, id, api.Order{Creditor: n, Priority: 1, Claim: 1, Balance: 1}); e != api.OK {
				t.Fatalf("Claim: %d", e)
			}
		}
	}
	return m
}

// made is a master of one person, by hand, as no call of layer 13 would make it.
func made(id int, creditors ...int) master.Master {
	p := master.Person{Id: id}
	for _, n := range creditors {
		p.Orders = append(p.Orders, api.Order{Creditor: n})
	}
	return master.Master{People: []master.Person{p}}
}

// got is an entry of January of what somebody and their creditors get.
func got(id int, net int, garnished ...int) book.Entry {
	return book.Entry{Run: 1, Period: jan, Id: id, R: result.Result{Net: net, Garnished: garnished}}
}

func bookOf(l ...book.Entry) book.Book { return book.Book{Entries: l} }

// pays checks Of's payments of January.
func pays(t *testing.T, b book.Book, m master.Master, want ...bank.Payment) {
	t.Helper()
	paysIn(t, b, m, jan, want...)
}

func paysIn(t *testing.T, b book.Book, m master.Master, period int, want ...bank.Payment) {
	t.Helper()
	f, e := holdOf(t, b, m, period)
	if f.Period != period || !slices.Equal(f.Payments, want) || e != api.OK || !bank.Right(f) {
		t.Errorf("Of(%.1000v, %.1000v, %d): %v, %d; want %v", b, m, period, f, e, want)
	}
	if _, e := holdWrite(t, f); e != api.OK {
		t.Errorf("Write(%v): %d", f, e)
	}
}

// refuses checks that January has no file.
func refuses(t *testing.T, b book.Book, m master.Master) {
	t.Helper()
	refusesIn(t, b, m, jan)
}

func refusesIn(t *testing.T, b book.Book, m master.Master, period int) {
	t.Helper()
	if f, e := holdOf(t, b, m, period); !isNothing(f) || e != api.ErrArg {
		t.Errorf("Of(%.1000v, %.1000v, %d): %.1000v, %d", b, m, period, f, e)
	}
}

// P22.2: people by rising Ids, whatever their order in the book, and then creditors by rising Numbers, each with all that is theirs.
func TestOf(t *testing.T) {
	m := hired(t, map[int][]int{5: {40, 7}, 2: {40}, 9: nil, 11: {999, 1, 40}})
	b := bookOf(got(5, 100, 4, 3), got(2, 70, 6), got(11, 1, 20, 30, 50), got(9, 8))
	want := []bank.Payment{pay('E', 2, 70), pay('E', 5, 100), pay('E', 9, 8), pay('E', 11, 1), pay('C', 1, 30), pay('C', 7, 3), pay('C', 40, 60), pay('C', 999, 20)}
	pays(t, b, m, want...)
	slices.Reverse(b.Entries)
	pays(t, b, m, want...)
	pays(t, bookOf(got(9, 8)), m, pay('E', 9, 8))
	pays(t, bookOf(got(9, 8), got(7, 5)), hired(t, map[int][]int{9: {1, 2}, 7: {3}}), pay('E', 7, 5), pay('E', 9, 8))
	pays(t, bookOf(got(2, 0, 6)), m, pay('C', 40, 6))
	pays(t, bookOf(got(40, 3, 6)), hired(t, map[int][]int{40: {40}}), pay('E', 40, 3), pay('C', 40, 6))
}

// P22.2: of nothing there is a file without payments.
func TestOfNothing(t *testing.T) {
	m := hired(t, map[int][]int{5: {40}})
	for _, b := range []book.Book{{}, {Entries: []book.Entry{}}, bookOf(got(5, 0)), bookOf(got(5, 0, 0)), bookOf(got(6, 0), got(5, 0, 0)), {Entries: make([]book.Entry, 3)}} {
		for _, m := range []master.Master{m, hired(t, map[int][]int{5: {1, 2}, 8: nil})} {
			pays(t, b, m)
			paysIn(t, b, m, first)
			paysIn(t, b, m, last)
		}
	}
	pays(t, book.Book{}, master.Master{})
	pays(t, bookOf(got(5, 0), got(6, 0)), master.Master{})
}

// P22.2: a Net that is not above 0, and creditors who get nothing in all, have no payment; the others have theirs.
func TestOfNoughts(t *testing.T) {
	m := hired(t, map[int][]int{5: {40, 41, 42}, 6: {41, 42}, 7: {42}})
	pays(t, bookOf(got(5, 0, 0, 0, 9), got(6, 5, 0, 0), got(7, 0, 0)), m, pay('E', 6, 5), pay('C', 42, 9))
	pays(t, bookOf(got(5, 0, 0, 1, 0), got(6, 0, 0, 0), got(7, 1, 1)), m, pay('E', 7, 1), pay('C', 41, 1), pay('C', 42, 1))
	for _, net := range []int{-1, -100, math.MinInt, -most - 1} {
		pays(t, bookOf(got(5, net, 3), got(6, 2)), m, pay('E', 6, 2), pay('C', 40, 3))
	}
	pays(t, bookOf(got(5, 1, -1, 5, 0), got(6, 0, -5, 2), got(7, 0, -3)), m, pay('E', 5, 1))
	pays(t, bookOf(got(5, 1, 0, 5, 3), got(6, 0, -4, -3), got(7, 0, 1)), m, pay('E', 5, 1), pay('C', 41, 1), pay('C', 42, 1))
	pays(t, bookOf(got(5, 1, math.MinInt, math.MinInt), got(6, 0, math.MinInt, 2)), m, pay('E', 5, 1), pay('C', 42, 2))
}

// P22.2: what else an entry has is not asked: Short, Taken, Paid, Owed and so on; nor what an order has but its Creditor.
func TestOfOthers(t *testing.T) {
	e := got(5, 100, 4)
	e.Run, e.Centre = 77, 88
	e.R.Short, e.R.Taken, e.R.Held, e.R.Tax, e.R.Taxable = 1, 2, 3, 4, math.MaxInt
	e.R.Raw, e.R.Extra = result.Sums{Gross: 5, Pretax: 6, Post: 7}, result.Sums{Gross: most + 1, Pretax: -1, Post: 1}
	e.R.Paid, e.R.Owed = []int{8, 9}, []int{10}
	e.R.Lines = []result.Line{{Kind: "earn", Name: "a", Amount: 11}}
	e.Fixes = []book.Fix{{Period: jan - 1, S: result.Sums{Gross: 12}}}
	m := master.Master{People: []master.Person{{Id: 5, Hired: jan + 5, Gone: jan + 6, Orders: []api.Order{{Creditor: 40, Priority: -1, Claim: math.MinInt, Balance: 1}}}}}
	pays(t, bookOf(e), m, pay('E', 5, 100), pay('C', 40, 4))
	paysIn(t, bookOf(e), m, jan-1)
}

// P22.2: of the period alone; each has what is its own.
func TestOfPeriods(t *testing.T) {
	m := hired(t, map[int][]int{5: {40}, 6: {40, 7}})
	feb := func(e book.Entry) book.Entry {
		e.Period = jan + 1
		return e
	}
	b := bookOf(got(5, 1, 20), feb(got(6, 300, 4000)), feb(got(5, 50000)), got(6, 600000))
	paysIn(t, b, m, jan, pay('E', 5, 1), pay('E', 6, 600000), pay('C', 40, 20))
	paysIn(t, b, m, jan+1, pay('E', 5, 50000), pay('E', 6, 300), pay('C', 40, 4000))
	paysIn(t, b, m, jan+2)
	paysIn(t, b, m, jan-1)
	for _, period := range []int{first, last} {
		e := got(5, 7, 9)
		e.Period = period
		paysIn(t, bookOf(e), m, period, pay('E', 5, 7), pay('C', 40, 9))
		pays(t, bookOf(e), m)
	}
}

// P22.2: a period that is none, with entries and without.
func TestOfWrongPeriods(t *testing.T) {
	m := hired(t, map[int][]int{5: {40}})
	for _, period := range []int{first - 1, last + 1, 0, 5, -1, -jan, 2023, 1<<32 + jan, math.MaxInt, math.MinInt} {
		e := got(5, 7, 9)
		e.Period = period
		refusesIn(t, book.Book{}, master.Master{}, period)
		refusesIn(t, book.Book{}, m, period)
		refusesIn(t, bookOf(e), m, period)
		refusesIn(t, bookOf(got(5, 7, 9)), m, period)
		e.R = result.Result{}
		refusesIn(t, bookOf(e), m, period)
	}
}

// P22.2: what is taken back pays nothing, nor does what takes it back; a new entry behind it counts.
func TestOfTakenBack(t *testing.T) {
	m := hired(t, map[int][]int{5: {40}, 6: {40}})
	b, e := book.Add(book.Book{}, got(5, 100, 7))
	if e != api.OK {
		t.Fatalf("Add: %d", e)
	}
	b, _ = book.Add(b, got(6, 30, 2))
	pays(t, b, m, pay('E', 5, 100), pay('E', 6, 30), pay('C', 40, 9))
	if b, e = book.Reverse(b, 0); e != api.OK {
		t.Fatalf("Reverse: %d", e)
	}
	pays(t, b, m, pay('E', 6, 30), pay('C', 40, 2))
	again, e := book.Add(b, got(5, 4, 1))
	if e != api.OK {
		t.Fatalf("Add: %d", e)
	}
	pays(t, again, m, pay('E', 5, 4), pay('E', 6, 30), pay('C', 40, 3))
	b, _ = book.Reverse(b, 1)
	pays(t, b, m)
	// What is wrong of an entry that is not live, or of another period, is nothing to the file.
	wrong := got(5, most+1, 1, 2, most)
	back := wrong
	back.Back = 1
	pays(t, bookOf(wrong, back), m)
	pays(t, bookOf(wrong, got(6, 3), back), m, pay('E', 6, 3))
	wrong.Period++
	pays(t, bookOf(wrong, got(6, 3)), m, pay('E', 6, 3))
	for _, back.Back = range []int{-1, 5, math.MaxInt, math.MinInt} {
		pays(t, bookOf(back, got(6, 3)), m, pay('E', 6, 3))
	}
}

// P22.2: fewer Garnished than orders, as many, and more, which answers ErrArg, also where they are noughts.
func TestOfOrders(t *testing.T) {
	for there := range 9 {
		var creditors []int
		for i := range there {
			creditors = append(creditors, 100+i)
		}
		m := hired(t, map[int][]int{5: creditors, 6: {1, 2, 3, 4, 5, 6, 7, 8}})
		for many := range 12 {
			var l []int
			want := []bank.Payment{pay('E', 5, 10), pay('E', 6, 20)}
			for i := range many {
				l = append(l, i+1)
				want = append(want, pay('C', 100+i, i+1))
			}
			b := bookOf(got(6, 20), got(5, 10, l...))
			zeros := bookOf(got(6, 20), got(5, 10, make([]int, many)...))
			if many <= there {
				pays(t, b, m, want...)
				pays(t, zeros, m, want[:2]...)
				continue
			}
			refuses(t, b, m)
			refuses(t, zeros, m)
		}
	}
}

// P22.2: somebody whom the master has not has no orders.
func TestOfNobody(t *testing.T) {
	for _, m := range []master.Master{{}, hired(t, map[int][]int{5: {40}, 7: {41}})} {
		pays(t, bookOf(got(6, 9)), m, pay('E', 6, 9))
		pays(t, bookOf(got(6, 9, []int{}...)), m, pay('E', 6, 9))
		refuses(t, bookOf(got(6, 9, 1)), m)
		refuses(t, bookOf(got(6, 9, 0)), m)
		refuses(t, bookOf(got(6, 0, 0)), m)
	}
}

// P22.2: amounts at their edges and beyond.
func TestOfEdges(t *testing.T) {
	m := hired(t, map[int][]int{5: {40, 41}, 6: {41, 40}})
	for _, n := range []int{1, most - 1, most} {
		pays(t, bookOf(got(5, n)), m, pay('E', 5, n))
		pays(t, bookOf(got(5, 0, n)), m, pay('C', 40, n))
		pays(t, bookOf(got(5, n, n, n)), m, pay('E', 5, n), pay('C', 40, n), pay('C', 41, n))
		pays(t, bookOf(got(5, 0, n-1), got(6, 0, 0, 1)), m, pay('C', 40, n))
	}
	for _, n := range []int{most + 1, 1 << 51, 1 << 62, math.MaxInt} {
		refuses(t, bookOf(got(5, n)), m)
		refuses(t, bookOf(got(6, 4), got(5, n, 3)), m)
		refuses(t, bookOf(got(5, 1, n)), m)
		refuses(t, bookOf(got(5, 1, 0, n)), m)
		refuses(t, bookOf(got(5, 0, n-1), got(6, 0, 0, 1)), m)
		refuses(t, bookOf(got(5, 0, n/2), got(6, 0, 0, n-n/2)), m)
	}
	refuses(t, bookOf(got(5, 0, most), got(6, 0, 0, most)), m)
	pays(t, bookOf(got(5, 0, most), got(6, 0, most, 0)), m, pay('C', 40, most), pay('C', 41, most))
	// What is too much on the way, but not in the end; and sums that would wrap round to such as are right.
	pays(t, bookOf(got(5, 0, most+5), got(6, 0, 0, -5)), m, pay('C', 40, most))
	pays(t, bookOf(got(5, 0, math.MaxInt), got(6, 0, 3, -math.MaxInt+most)), m, pay('C', 40, most), pay('C', 41, 3))
	pays(t, bookOf(got(5, 0, math.MaxInt), got(6, 0, 3, math.MinInt)), m, pay('C', 41, 3))
	pays(t, bookOf(got(5, 0, math.MinInt), got(6, 0, 3, math.MinInt)), m, pay('C', 41, 3))
	pays(t, bookOf(got(5, 0, -1), got(6, 0, 3, math.MinInt)), m, pay('C', 41, 3))
	refuses(t, bookOf(got(5, 0, math.MaxInt), got(6, 0, 0, math.MaxInt)), m)
}

// P22.2: sums of many, that wrap round once and more.
func TestOfManySums(t *testing.T) {
	for _, c := range []struct {
		high, low, rest int // how many amounts of 2^62 and -2^62, and one more
		right           bool
	}{
		{4, 0, 5, false}, {2, 0, 5, false}, {8, 0, most, false}, {4, 0, -1, false}, {4, 3, 0, false},
		{4, 4, 5, true}, {4, 4, most, true}, {4, 4, most + 1, false}, {8, 8, 0, true}, {8, 8, -1, true}, {5, 4, -1<<62 + 1, true}, {5, 4, -1<<62 + most, true}, {5, 4, -1<<62 + most + 1, false}, {5, 4, -1<<62 - 1, true},
		{0, 4, 5, true}, {0, 2, 5, true}, {0, 1, 1, true}, {0, 4, -1, true}, {0, 8, most + 1, true}, {1, 5, most + 1, true}, {4, 5, 1 << 62, true}, {4, 5, 1<<62 + 1, true},
	} {
		l := slices.Concat(slices.Repeat([]int{1 << 62}, c.high), slices.Repeat([]int{-1 << 62}, c.low), []int{c.rest})
		for range 2 {
			m := made(5, slices.Repeat([]int{40}, len(l))...)
			f, e := holdOf(t, bookOf(got(5, 0, l...)), m, jan)
			if (e == api.OK) != c.right || len(f.Payments) > 1 {
				t.Errorf("%v: %v, %d", c, f, e)
			}
			slices.Reverse(l)
		}
	}
}

// P22.2: creditors and Ids that are no Numbers of payments, as no call of layers 13 and 19 puts them there, where they are paid; and the edges of those that are.
func TestOfNumbers(t *testing.T) {
	for _, n := range []int{1, 2, 999, 1000, 1 << 30, highest} {
		pays(t, bookOf(got(n, 5, 6)), made(n, n), pay('E', n, 5), pay('C', n, 6))
		pays(t, bookOf(got(n, 5)), master.Master{}, pay('E', n, 5))
	}
	for _, n := range []int{0, -1, highest + 1, 1<<32 + 5, math.MaxInt, math.MinInt} {
		refuses(t, bookOf(got(n, 5)), master.Master{})
		refuses(t, bookOf(got(5, 5, 6)), made(5, n))
		pays(t, bookOf(got(n, 0)), master.Master{})
		pays(t, bookOf(got(5, 5, 0)), made(5, n), pay('E', 5, 5))
		pays(t, bookOf(got(5, 5, 6)), made(5, 8, n), pay('E', 5, 5), pay('C', 8, 6))
	}
	pays(t, bookOf(got(5, 5, 6, 7, 8)), made(5, 41, 40, 41), pay('E', 5, 5), pay('C', 40, 7), pay('C', 41, 14))
}

// P22.2: two live entries of one Id, as no call of layer 17 makes them: two payments to one person are no file.
func TestOfTwice(t *testing.T) {
	m := hired(t, map[int][]int{5: {40}})
	refuses(t, bookOf(got(5, 1, 2), got(5, 3, 4)), m)
	refuses(t, bookOf(got(5, 1), got(6, 2), got(5, 1)), m)
	pays(t, bookOf(got(5, 1, 2), got(5, 0, 4)), m, pay('E', 5, 1), pay('C', 40, 6))
	pays(t, bookOf(got(5, 0, 2), got(5, 0, 4)), m, pay('C', 40, 6))
}

// P22.2: 4,999 payments and 5,000, of people, of creditors, and of both.
func TestOfMany(t *testing.T) {
	people := func(many int) book.Book {
		var b book.Book
		for i := range many {
			b.Entries = append(b.Entries, got(many-i, 3))
		}
		return b
	}
	f, e := holdOf(t, people(crowd), master.Master{}, jan)
	if len(f.Payments) != crowd || f.Payments[crowd-1] != pay('E', crowd, 3) || e != api.OK {
		t.Errorf("Of so many: %d, %d", len(f.Payments), e)
	}
	refuses(t, people(crowd+1), master.Master{})
	b := people(crowd + 1)
	b.Entries[17].R.Net = 0
	if f, e := holdOf(t, b, master.Master{}, jan); len(f.Payments) != crowd || e != api.OK {
		t.Errorf("Of one more, who gets nothing: %d, %d", len(f.Payments), e)
	}
	for _, creditors := range []int{crowd - 1, crowd, crowd + 1} {
		t.Run(fmt.Sprint(creditors), func(t *testing.T) {
			var l []int
			for i := range creditors {
				l = append(l, creditors-i)
			}
			m := made(5, l...)
			for _, net := range []int{0, 1} {
				f, e := holdOf(t, bookOf(got(5, net, slices.Repeat([]int{most}, creditors)...)), m, jan)
				if right := creditors+net <= crowd; right != (e == api.OK) || right && len(f.Payments) != creditors+net {
					t.Errorf("Of %d, %d: %d, %d", creditors, net, len(f.Payments), e)
				}
			}
			pays(t, bookOf(got(5, 1, make([]int, creditors)...)), m, pay('E', 5, 1))
		})
	}
}

// R1, R4: an answer is new memory, and the same again, whatever somebody writes into another one.
func TestOfAgain(t *testing.T) {
	m := hired(t, map[int][]int{5: {40, 7, 900}, 2: {40, 11, 3}, 8: {1, 2, 3, 4, 5, 6, 7, 8}})
	b := bookOf(got(5, 100, 4, 3, 1), got(2, 70, 6, 5, 4), got(8, 1, 1, 2, 3, 4, 5, 6, 7, 8))
	f, e := holdOf(t, b, m, jan)
	if e != api.OK || len(f.Payments) != 14 {
		t.Fatalf("Of: %v, %d", f, e)
	}
	want := slices.Clone(f.Payments)
	clear(f.Payments)
	for range 50 {
		if again, e := holdOf(t, b, m, jan); !slices.Equal(again.Payments, want) || e != api.OK {
			t.Fatalf("Of again: %v, %d", again, e)
		}
	}
}
