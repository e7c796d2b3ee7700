package journal_test

import (
	"math"
	"math/big"
	"reflect"
	"slices"
	"testing"

	"paymaster/api"
	"paymaster/book"
	"paymaster/journal"
	"paymaster/master"
	"paymaster/result"
)

// A second telling, by other means than the package's: the chapter's table as a list of rows, all sums as numbers of any size.

// far is how far from 0 the amounts may be.
const far = 1 << 50

// line is one of the chapter's table: an account, and what is added there, or taken off.
type line struct {
	account int
	less    bool
	made    []int
}

// at is what a list has at a place, as a list of one; nothing, if it has none there.
func at(l []int, i int) []int {
	if i < len(l) {
		return l[i : i+1]
	}
	return nil
}

// table is the chapter's. (The account of an order that is not there is none.)
func table(r result.Result, l []api.Order) []line {
	lines := []line{
		{4000, false, []int{r.Raw.Gross, r.Extra.Gross}},
		{4100, false, r.Owed},
		{1700, false, []int{r.Short}},
		{2000, true, []int{r.Net}},
		{2100, true, []int{r.Tax}},
	}
	for i := range max(len(r.Paid), len(r.Owed)) {
		lines = append(lines, line{2200 + i, true, slices.Concat(at(r.Paid, i), at(r.Owed, i))})
	}
	lines = append(lines, line{2300, true, []int{r.Raw.Pretax, r.Extra.Pretax}}, line{2400, true, []int{r.Taken}})
	for i, n := range r.Garnished {
		account := 0
		if i < len(l) {
			account = 3000 + l[i].Creditor
		}
		lines = append(lines, line{account, true, []int{n}})
	}
	return lines
}

func sum(l []int) *big.Int {
	n := new(big.Int)
	for _, x := range l {
		n.Add(n, big.NewInt(int64(x)))
	}
	return n
}

func isFar(n *big.Int) bool { return n.CmpAbs(big.NewInt(far)) > 0 }

// exactOf is the answer that P21.1 asks for.
func exactOf(e book.Entry, l []api.Order) ([]journal.Posting, api.Errno) {
	var want []journal.Posting
	for _, x := range table(e.R, l) {
		n := sum(x.made)
		if isFar(n) || slices.ContainsFunc(x.made, func(one int) bool { return isFar(big.NewInt(int64(one))) }) {
			return nil, api.ErrOver
		}
		if x.less != (e.Back != 0) {
			n.Neg(n)
		}
		if n.Sign() != 0 {
			want = append(want, journal.Posting{Account: x.account, Centre: e.Centre, Amount: int(n.Int64())})
		}
	}
	if len(e.R.Paid) > 6 || len(e.R.Owed) > 6 || len(e.R.Paid) != len(e.R.Owed) || len(e.R.Garnished) > len(l) {
		return nil, api.ErrArg
	}
	for i := range e.R.Garnished {
		if l[i].Creditor <= 0 || l[i].Creditor >= 1000 {
			return nil, api.ErrArg
		}
	}
	return want, api.OK
}

// exactAll is the answer that P21.1 asks for.
func exactAll(b book.Book, m master.Master) ([]journal.Posting, api.Errno) {
	var want []journal.Posting
	for _, e := range b.Entries {
		var orders []api.Order
		for _, p := range m.People {
			if p.Id == e.Id {
				orders = p.Orders
			}
		}
		l, f := exactOf(e, orders)
		if f != api.OK {
			return nil, f
		}
		want = append(want, l...)
	}
	return want, api.OK
}

// exactBalance is the answer that P21.2 asks for; nil, if it is no int.
func exactBalance(l []journal.Posting, account int, centre int) *big.Int {
	var amounts []int
	for _, p := range l {
		if p.Account == account && (p.Centre == centre || centre <= -1) {
			amounts = append(amounts, p.Amount)
		}
	}
	if n := sum(amounts); n.IsInt64() {
		return n
	}
	return nil
}

// exactTotals is the answer that P21.2 asks for, its parts as numbers of any size.
func exactTotals(l []journal.Posting) (*big.Int, *big.Int, api.Errno) {
	debits, credits, none := new(big.Int), new(big.Int), false
	for _, p := range l {
		n := big.NewInt(int64(p.Amount))
		if n.Sign() > 0 {
			debits.Add(debits, n)
		} else {
			credits.Sub(credits, n)
		}
		none = none || p.Amount == math.MinInt
	}
	if none || new(big.Int).Add(debits, credits).Cmp(big.NewInt(1<<53)) > 0 {
		return new(big.Int), new(big.Int), api.ErrOver
	}
	return debits, credits, api.OK
}

// cloned shares nothing with e.
func cloned(e book.Entry) book.Entry {
	r := &e.R
	r.Lines, r.Paid, r.Owed, r.Garnished = slices.Clone(r.Lines), slices.Clone(r.Paid), slices.Clone(r.Owed), slices.Clone(r.Garnished)
	e.Fixes = slices.Clone(e.Fixes)
	return e
}

func clonedBook(b book.Book) book.Book {
	var c book.Book
	for _, e := range b.Entries {
		c.Entries = append(c.Entries, cloned(e))
	}
	return c
}

// hold is Of, held against the second telling.
func hold(t *testing.T, e book.Entry, l []api.Order) ([]journal.Posting, api.Errno) {
	t.Helper()
	before, orders := cloned(e), slices.Clone(l)
	want, f := exactOf(e, l)
	got, g := journal.Of(e, l)
	if !slices.Equal(got, want) || g != f {
		t.Fatalf("Of(%.2000v, %.2000v) = %v, %d; want %v, %d", e, l, got, g, want, f)
	}
	if !reflect.DeepEqual(e, before) || !slices.Equal(l, orders) {
		t.Fatalf("what was handed in is %.2000v, %.2000v now, and was %.2000v, %.2000v", e, l, before, orders)
	}
	return got, g
}

// holdAll is All, held against the second telling.
func holdAll(t *testing.T, b book.Book, m master.Master) ([]journal.Posting, api.Errno) {
	t.Helper()
	before := clonedBook(b)
	want, f := exactAll(b, m)
	got, g := journal.All(b, m)
	if !slices.Equal(got, want) || g != f {
		t.Fatalf("All(%.2000v, %.2000v) = %.2000v, %d; want %.2000v, %d", b, m, got, g, want, f)
	}
	if !reflect.DeepEqual(clonedBook(b), before) {
		t.Fatalf("the book is %.2000v now, and was %.2000v", b, before)
	}
	return got, g
}

// holdBalance is Balance, held against the second telling.
func holdBalance(t *testing.T, l []journal.Posting, account int, centre int) int {
	t.Helper()
	before := slices.Clone(l)
	got, want := journal.Balance(l, account, centre), exactBalance(l, account, centre)
	if want != nil && want.Cmp(big.NewInt(int64(got))) != 0 || !slices.Equal(l, before) {
		t.Fatalf("Balance(%.2000v, %d, %d) = %d; want %v", before, account, centre, got, want)
	}
	return got
}

// holdTotals is Totals, held against the second telling.
func holdTotals(t *testing.T, l []journal.Posting) (complex128, api.Errno) {
	t.Helper()
	before := slices.Clone(l)
	debits, credits, f := exactTotals(l)
	got, g := journal.Totals(l)
	if !isPart(real(got), debits) || !isPart(imag(got), credits) || g != f || !slices.Equal(l, before) {
		t.Fatalf("Totals(%.2000v) = %v, %d; want %v and %v, %d", before, got, g, debits, credits, f)
	}
	return got, g
}

// isPart: is it just that number, and +0, if it is 0?
func isPart(part float64, n *big.Int) bool {
	want, _ := new(big.Float).SetInt(n).Float64()
	return math.Float64bits(part) == math.Float64bits(want)
}
