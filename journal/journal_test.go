package journal_test

import (
	"fmt"
	"math"
	"slices"
	"testing"

	"paymaster/api"
	"paymaster/book"
	"paymaster/journal"
	"paymaster/master"
	"paymaster/result"
	"paymaster/tree"
	"paymaster/value"
	"paymaster/withhold"
)

const jan = 24276 // 2023-01

// full is an entry of three funds and two creditors, of which no amount is another one.
func full() book.Entry {
	return book.Entry{
		Run: 3, Period: jan, Id: 7, Centre: 44,
		R: result.Result{
			Lines: []result.Line{{Kind: "earn", Name: "pay", Amount: 999}},
			Raw:   result.Sums{Gross: 10000, Pretax: 200, Post: 1 << 60}, Extra: result.Sums{Gross: 3000, Pretax: 40, Post: -1 << 60},
			Taxable: 1 << 61, Tax: 50, Taken: 6, Held: 1 << 62, Net: 70, Short: 8,
			Paid: []int{100, 101, 102}, Owed: []int{1000, 1100, 1200}, Garnished: []int{31, 32},
		},
		Fixes: []book.Fix{{Period: jan - 1, S: result.Sums{Gross: 77, Pretax: 78, Post: 79}}},
	}
}

// creditors are orders of these, one behind the other.
func creditors(l ...int) []api.Order {
	var orders []api.Order
	for i, n := range l {
		orders = append(orders, api.Order{Creditor: n, Priority: i, Claim: 1000 + i, Balance: 2000 + i})
	}
	return orders
}

// of is a list of postings of one centre: accounts and amounts by turns.
func of(centre int, l ...int) []journal.Posting {
	var p []journal.Posting
	for i := 0; i < len(l); i += 2 {
		p = append(p, journal.Posting{Account: l[i], Centre: centre, Amount: l[i+1]})
	}
	return p
}

// less are the same postings, the amounts taken off 0.
func less(l []journal.Posting) []journal.Posting {
	var p []journal.Posting
	for _, x := range l {
		p = append(p, journal.Posting{Account: x.Account, Centre: x.Centre, Amount: -x.Amount})
	}
	return p
}

// tells checks Of's postings, and those of one that takes the entry back.
func tells(t *testing.T, e book.Entry, l []api.Order, want []journal.Posting) {
	t.Helper()
	for _, e.Back = range []int{0, 1, 2, -1, math.MaxInt, math.MinInt} {
		want := want
		if e.Back != 0 {
			want = less(want)
		}
		if got, f := hold(t, e, l); !slices.Equal(got, want) || f != api.OK {
			t.Errorf("Of(%v, %v): %v, %d; want %v", e, l, got, f, want)
		}
	}
}

// fails checks Of's error, also of one that takes the entry back.
func fails(t *testing.T, e book.Entry, l []api.Order, want api.Errno) {
	t.Helper()
	for _, e.Back = range []int{0, 1, -1} {
		if got, f := hold(t, e, l); got != nil || f != want {
			t.Errorf("Of(%v, %v): %v, %d; want %d", e, l, got, f, want)
		}
	}
}

// with is an entry of noughts, but for what set puts there.
func with(set func(r *result.Result)) book.Entry {
	e := book.Entry{Centre: 9}
	set(&e.R)
	return e
}

// The chapter's example.
func TestExample(t *testing.T) {
	e := book.Entry{R: result.Result{Raw: result.Sums{Gross: 10000}, Taxable: 10000, Tax: 1000, Net: 9000}}
	tells(t, e, nil, of(0, 4000, 10000, 2000, -9000, 2100, -1000))
}

// P21.1: all rows of the table, in its order, each with the entry's centre.
func TestRows(t *testing.T) {
	l := creditors(12, 5)
	want := of(44, 4000, 13000, 4100, 3300, 1700, 8, 2000, -70, 2100, -50, 2200, -1100, 2201, -1201, 2202, -1302, 2300, -240, 2400, -6, 3012, -31, 3005, -32)
	tells(t, full(), l, want)
	tells(t, full(), append(l, creditors(1, 0, 5000)...), want)
	for _, centre := range []int{0, 1, 999, 1000, -1, math.MinInt, math.MaxInt} {
		e := full()
		e.Centre = centre
		for i := range want {
			want[i].Centre = centre
		}
		tells(t, e, l, want)
	}
}

// P21.1: each amount alone has its postings and no other ones; those of 0 have none.
func TestAlone(t *testing.T) {
	l := creditors(1, 999, 7)
	for i, c := range []struct {
		set  func(r *result.Result)
		want []int
	}{
		{func(r *result.Result) {}, nil},
		{func(r *result.Result) { r.Raw.Gross = 5 }, []int{4000, 5}},
		{func(r *result.Result) { r.Extra.Gross = -5 }, []int{4000, -5}},
		{func(r *result.Result) { r.Raw.Gross, r.Extra.Gross = 5, -5 }, nil},
		{func(r *result.Result) { r.Raw.Gross, r.Extra.Gross = 5, -6 }, []int{4000, -1}},
		{func(r *result.Result) { r.Paid, r.Owed = []int{0}, []int{4} }, []int{4100, 4, 2200, -4}},
		{func(r *result.Result) { r.Paid, r.Owed = []int{4}, []int{0} }, []int{2200, -4}},
		{func(r *result.Result) { r.Paid, r.Owed = []int{4, 0, 0}, []int{-4, 0, 9} }, []int{4100, 5, 2202, -9}},
		{func(r *result.Result) { r.Paid, r.Owed = []int{0, 0}, []int{7, -7} }, []int{2200, -7, 2201, 7}},
		{func(r *result.Result) { r.Paid, r.Owed = []int{-3, -2}, []int{-1, 0} }, []int{4100, -1, 2200, 4, 2201, 2}},
		{func(r *result.Result) { r.Paid, r.Owed = make([]int, 6), make([]int, 6) }, nil},
		{func(r *result.Result) { r.Paid, r.Owed = []int{}, []int{} }, nil},
		{func(r *result.Result) { r.Short = 3 }, []int{1700, 3}},
		{func(r *result.Result) { r.Short = -3 }, []int{1700, -3}},
		{func(r *result.Result) { r.Net = 3 }, []int{2000, -3}},
		{func(r *result.Result) { r.Net = -3 }, []int{2000, 3}},
		{func(r *result.Result) { r.Tax = 3 }, []int{2100, -3}},
		{func(r *result.Result) { r.Tax = -3 }, []int{2100, 3}},
		{func(r *result.Result) { r.Raw.Pretax = 2 }, []int{2300, -2}},
		{func(r *result.Result) { r.Extra.Pretax = -2 }, []int{2300, 2}},
		{func(r *result.Result) { r.Raw.Pretax, r.Extra.Pretax = -2, 2 }, nil},
		{func(r *result.Result) { r.Taken = 8 }, []int{2400, -8}},
		{func(r *result.Result) { r.Taken = -8 }, []int{2400, 8}},
		{func(r *result.Result) { r.Garnished = []int{0, 0, 0} }, nil},
		{func(r *result.Result) { r.Garnished = []int{0, 6, 0} }, []int{3999, -6}},
		{func(r *result.Result) { r.Garnished = []int{1, -2, 3} }, []int{3001, -1, 3999, 2, 3007, -3}},
		{func(r *result.Result) { r.Garnished = []int{} }, nil},
	} {
		t.Run(fmt.Sprint(i), func(t *testing.T) { tells(t, with(c.set), l, of(9, c.want...)) })
	}
}

// P21.1: what no row of the table names has no postings and no error, whatever it is.
func TestUnnamed(t *testing.T) {
	for _, n := range []int{1, -1, far + 1, -far - 1, math.MaxInt, math.MinInt} {
		for i, e := range []book.Entry{
			{Run: n}, {Period: n}, {Id: n},
			with(func(r *result.Result) { r.Raw.Post = n }),
			with(func(r *result.Result) { r.Extra.Post = n }),
			with(func(r *result.Result) { r.Taxable = n }),
			with(func(r *result.Result) { r.Held = n }),
			with(func(r *result.Result) { r.Lines = []result.Line{{Kind: "earn", Name: "a", Amount: n}} }),
			{Fixes: []book.Fix{{Period: n, S: result.Sums{Gross: n, Pretax: n, Post: n}}}},
		} {
			t.Run(fmt.Sprint(i), func(t *testing.T) { tells(t, e, nil, nil) })
		}
	}
}

// places are those of all amounts that rows of the table name.
func places(r *result.Result) []*int {
	l := []*int{&r.Raw.Gross, &r.Extra.Gross, &r.Raw.Pretax, &r.Extra.Pretax, &r.Short, &r.Net, &r.Tax, &r.Taken}
	for _, list := range [][]int{r.Paid, r.Owed, r.Garnished} {
		for i := range list {
			l = append(l, &list[i])
		}
	}
	return l
}

// blank is an entry of noughts, of six funds and eight creditors.
func blank() book.Entry {
	return book.Entry{Centre: 9, R: result.Result{Paid: make([]int, 6), Owed: make([]int, 6), Garnished: make([]int, 8)}}
}

// P21.1: each amount at its edges, and 1 farther.
func TestEdges(t *testing.T) {
	l := creditors(1, 2, 3, 4, 5, 6, 7, 8)
	e := blank()
	tells(t, e, l, nil)
	for i := range places(&e.R) {
		e := blank()
		n := places(&e.R)[i]
		for _, *n = range []int{far, -far} {
			if got, f := hold(t, e, l); f != api.OK || len(got) == 0 || max(got[0].Amount, -got[0].Amount) != far {
				t.Errorf("%d at %d: %v, %d", *n, i, got, f)
			}
		}
		for _, *n = range []int{far + 1, -far - 1, 1 << 51, 1 << 62, math.MaxInt, math.MinInt, math.MinInt + 1} {
			fails(t, e, l, api.ErrOver)
		}
	}
}

// P21.1: sums at their edges, and 1 farther; parts of them that are too far, though the sum is near.
func TestSumEdges(t *testing.T) {
	l := creditors(1)
	for i, set := range []func(r *result.Result, a, b int){
		func(r *result.Result, a, b int) { r.Raw.Gross, r.Extra.Gross = a, b },
		func(r *result.Result, a, b int) { r.Raw.Pretax, r.Extra.Pretax = a, b },
		func(r *result.Result, a, b int) { r.Paid, r.Owed = []int{a}, []int{b} },
		func(r *result.Result, a, b int) { r.Paid, r.Owed = []int{0, 0, a}, []int{0, 0, b} },
		func(r *result.Result, a, b int) { r.Paid, r.Owed = []int{0, 0}, []int{a, b} },
		func(r *result.Result, a, b int) { r.Paid, r.Owed = make([]int, 6), []int{0, a, 0, 0, 0, b} },
	} {
		for _, c := range []struct {
			a, b int
			want api.Errno
		}{
			{far - 1, 1, api.OK}, {1, far - 1, api.OK}, {-far, 0, api.OK}, {-far / 2, -far / 2, api.OK}, {far, -far, api.OK}, {-far, 1, api.OK},
			{far, 1, api.ErrOver}, {1, far, api.ErrOver}, {-far, -1, api.ErrOver}, {far / 2, far/2 + 1, api.ErrOver}, {-far / 2, -far/2 - 1, api.ErrOver}, {far, far, api.ErrOver}, {-far, -far, api.ErrOver},
			{far + 1, -1, api.ErrOver}, {-1, far + 1, api.ErrOver}, {-far - 1, 1, api.ErrOver}, {1, -far - 1, api.ErrOver}, {far + 1, -far - 1, api.ErrOver},
			{math.MaxInt, -math.MaxInt, api.ErrOver}, {math.MinInt, math.MinInt, api.ErrOver}, {math.MaxInt, 1, api.ErrOver}, {math.MinInt, -1, api.ErrOver},
		} {
			e := with(func(r *result.Result) { set(r, c.a, c.b) })
			for _, e.Back = range []int{0, 1} {
				if _, f := hold(t, e, l); f != c.want {
					t.Errorf("%d, of %d and %d: %d, not %d", i, c.a, c.b, f, c.want)
				}
			}
		}
	}
	// What is too far on the way, but not in the end.
	e := with(func(r *result.Result) { r.Paid, r.Owed = make([]int, 3), []int{far, far, -far} })
	tells(t, e, nil, of(9, 4100, far, 2200, -far, 2201, -far, 2202, far))
	e.R.Owed[2]++
	fails(t, e, nil, api.ErrOver)
	e.R.Owed = []int{-far, -far, far - 1}
	fails(t, e, nil, api.ErrOver)
}

// P21.1: what is Owed together may be too far for an int; ErrOver just where it is so, whatever it wraps round to.
func TestManyOwed(t *testing.T) {
	for _, c := range []struct {
		high, low, rest int // how many amounts of far and -far, and one more
		want            api.Errno
	}{
		{1 << 14, 0, 0, api.ErrOver}, {0, 1 << 14, 0, api.ErrOver}, {1 << 14, 0, -far, api.ErrOver}, {1 << 14, 0, far, api.ErrOver}, {0, 1 << 14, 5, api.ErrOver},
		{1 << 13, 0, 0, api.ErrOver}, {0, 1 << 13, 0, api.ErrOver}, {1 << 15, 0, 1, api.ErrOver}, {1 << 14, 1, 0, api.ErrOver}, {1 << 14, 1<<14 - 1, 0, api.ErrArg},
		{1 << 14, 1 << 14, 0, api.ErrArg}, {1 << 14, 1 << 14, far, api.ErrArg}, {1 << 13, 1<<13 + 1, 0, api.ErrArg}, {1 << 13, 1<<13 + 1, -1, api.ErrOver}, {1<<13 + 1, 1 << 13, 1, api.ErrOver}, {1<<14 + 2, 1 << 14, 0, api.ErrOver}, {1 << 14, 1<<14 + 2, 0, api.ErrOver},
	} {
		for _, order := range []int{0, 1} {
			owed := slices.Concat(slices.Repeat([]int{far}, c.high), slices.Repeat([]int{-far}, c.low), []int{c.rest})
			if order == 1 {
				slices.Reverse(owed)
			}
			e := with(func(r *result.Result) { r.Owed = owed })
			if got, f := hold(t, e, nil); got != nil || f != c.want {
				t.Errorf("%v: %d", c, f)
			}
		}
	}
}

// P21.1: how many are Paid and Owed: equally many, and at most 6.
func TestFunds(t *testing.T) {
	for paid := range 10 {
		for owed := range 10 {
			for _, n := range []int{0, 5} {
				e := with(func(r *result.Result) {
					r.Paid, r.Owed = slices.Repeat([]int{n}, paid), slices.Repeat([]int{n}, owed)
				})
				if paid != owed || paid > 6 {
					fails(t, e, nil, api.ErrArg)
					continue
				}
				var want []int
				if n != 0 && paid > 0 {
					want = []int{4100, n * paid}
					for i := range paid {
						want = append(want, 2200+i, -2*n)
					}
				}
				tells(t, e, nil, of(9, want...))
			}
		}
	}
}

// P21.1: how many are Garnished, and how many orders there are.
func TestOrders(t *testing.T) {
	for many := range 12 {
		for there := range 12 {
			var l []api.Order
			var want []int
			for i := range there {
				l = append(l, api.Order{Creditor: 100 + i})
			}
			for i := range many {
				want = append(want, 3100+i, -i-1)
			}
			e := with(func(r *result.Result) {
				for i := range many {
					r.Garnished = append(r.Garnished, i+1)
				}
			})
			if many <= there {
				tells(t, e, l, of(9, want...))
			} else {
				fails(t, e, l, api.ErrArg)
			}
			clear(e.R.Garnished)
			if many <= there {
				tells(t, e, l, nil)
			} else {
				fails(t, e, l, api.ErrArg)
			}
		}
	}
}

// P21.1: Creditors at the index of a Garnished amount, of 0, too, and behind these; one of two orders; what else orders have.
func TestCreditors(t *testing.T) {
	wrong := []int{0, -1, 1000, 1001, math.MinInt, math.MaxInt, -999}
	e := with(func(r *result.Result) { r.Garnished = []int{4, 0, 6} })
	for _, n := range []int{1, 2, 998, 999} {
		tells(t, e, creditors(n, 5, 8), of(9, 3000+n, -4, 3008, -6))
		tells(t, e, creditors(5, n, 8), of(9, 3005, -4, 3008, -6))
		tells(t, e, creditors(5, 8, n), of(9, 3005, -4, 3000+n, -6))
	}
	for _, n := range wrong {
		fails(t, e, creditors(n, 5, 8), api.ErrArg)
		fails(t, e, creditors(5, n, 8), api.ErrArg)
		fails(t, e, creditors(5, 8, n), api.ErrArg)
		tells(t, e, creditors(5, 7, 8, n), of(9, 3005, -4, 3008, -6))
		tells(t, e, creditors(5, 7, 8, 9, n, n), of(9, 3005, -4, 3008, -6))
		tells(t, book.Entry{}, creditors(n), nil)
	}
	tells(t, e, creditors(5, 5, 5), of(9, 3005, -4, 3005, -6))
	odd := []api.Order{{Creditor: 5, Priority: -1, Claim: math.MinInt, Balance: math.MaxInt}, {Creditor: 6}, {Creditor: 7, Priority: 1000, Claim: far + 1, Balance: -1}}
	tells(t, e, odd, of(9, 3005, -4, 3007, -6))
}

// P21.1, R2: ErrOver is told ahead of ErrArg, wherever the amounts stand.
func TestErrOverFirst(t *testing.T) {
	for i, c := range []struct {
		set func(r *result.Result, n int)
		l   []api.Order
	}{
		{func(r *result.Result, n int) { r.Net, r.Paid = n, []int{1} }, nil},
		{func(r *result.Result, n int) { r.Paid = []int{0, n} }, nil},
		{func(r *result.Result, n int) { r.Owed = []int{0, n} }, nil},
		{func(r *result.Result, n int) { r.Paid, r.Owed = []int{0, n}, []int{0} }, nil},
		{func(r *result.Result, n int) { r.Paid, r.Owed = []int{0, n - 1, 0}, []int{0, 1} }, nil},
		{func(r *result.Result, n int) { r.Paid, r.Owed = []int{0, 1}, []int{0, n - 1, 0} }, nil},
		{func(r *result.Result, n int) { r.Owed = []int{n - 1, 1} }, nil},
		{func(r *result.Result, n int) { r.Paid, r.Owed = []int{6: n}, make([]int, 7) }, nil},
		{func(r *result.Result, n int) { r.Paid, r.Owed = []int{6: n - 1}, []int{6: 1} }, nil},
		{func(r *result.Result, n int) { r.Paid, r.Owed = make([]int, 7), []int{n - 1, 0, 0, 0, 0, 0, 1} }, nil},
		{func(r *result.Result, n int) { r.Garnished = []int{n} }, nil},
		{func(r *result.Result, n int) { r.Garnished = []int{0, n} }, creditors(1)},
		{func(r *result.Result, n int) { r.Garnished = []int{n} }, creditors(0)},
		{func(r *result.Result, n int) { r.Garnished = []int{0, n} }, creditors(0, 1)},
		{func(r *result.Result, n int) { r.Garnished, r.Tax = []int{0}, n }, creditors(1000)},
		{func(r *result.Result, n int) { r.Garnished, r.Raw.Gross, r.Extra.Gross = []int{0}, n-1, 1 }, creditors(1000)},
	} {
		t.Run(fmt.Sprint(i), func(t *testing.T) {
			fails(t, with(func(r *result.Result) { c.set(r, far+1) }), c.l, api.ErrOver)
			fails(t, with(func(r *result.Result) { c.set(r, far) }), c.l, api.ErrArg)
		})
	}
}

// read is the program that is read of a text without a fault.
func read(t *testing.T, s string) tree.Program {
	t.Helper()
	p, at, e := tree.Parse(s)
	if e != api.OK {
		t.Fatalf("Parse(%q): %d, %d", s, at, e)
	}
	return p
}

// isEven: debits and credits are the same, and not none.
func isEven(t *testing.T, l []journal.Posting) {
	t.Helper()
	if c, f := holdTotals(t, l); f != api.OK || real(c) != imag(c) || c == 0 {
		t.Errorf("Totals(%v): %v, %d", l, c, f)
	}
}

// P21.1, P21.3: entries of layer 16, with funds, creditors and extras, with what is short and what is held.
func TestWorked(t *testing.T) {
	l := []api.Order{{Creditor: 40, Priority: 2, Claim: 5000, Balance: 9000}, {Creditor: 8, Priority: 1, Claim: 2000, Balance: 1500}}
	y := withhold.Year{Taxable: 50000, Base: 60000, Tax: 5000, Paid: []int{3000, 600}, Owed: []int{4200, 0}}
	for i, c := range []struct {
		base      int
		protected int
		extra     result.Sums
		held      int
		want      []int
	}{
		// 10% tax, 5% and 7% for a fund, and 1% for one of up to 700.00, of which 600.00 came before.
		{100000, 60000, result.Sums{}, 0, []int{4000, 100000, 4100, 7000, 2000, -66500, 2100, -9000, 2200, -12000, 2201, -100, 2300, -10000, 2400, -2900, 3040, -5000, 3008, -1500}},
		{100000, 70000, result.Sums{Gross: 1000, Pretax: -500, Post: 100}, 0, []int{4000, 101000, 4100, 7070, 2000, -70000, 2100, -9150, 2200, -12120, 2201, -100, 2300, -9500, 2400, -3000, 3040, -2700, 3008, -1500}},
		{0, 0, result.Sums{Gross: -20000, Pretax: -2000, Post: -300}, 0, []int{4000, -20000, 4100, -1400, 1700, 14700, 2100, 1800, 2200, 2400, 2201, 200, 2300, 2000, 2400, 300}},
		{1000, 0, result.Sums{Pretax: 900}, 2900, []int{4000, 1000, 4100, 70, 1700, 60, 2200, -120, 2201, -10, 2300, -1000}},
		{4000, 0, result.Sums{Post: 150}, 50, []int{4000, 4000, 4100, 280, 2100, -360, 2200, -480, 2201, -40, 2300, -400, 2400, -3000}},
	} {
		p := result.Plan{P: read(t, "earn pay = base; pretax plan = base * 10.00%; post meal = if base = 0.00 then 0.00 else 29.00;"), Protected: c.protected,
			S: withhold.Scheme{Rows: []api.Row{{Above: 0, Rate: 1000}}, Funds: []withhold.Fund{{Rate: 500, Employer: 700, Ceiling: 1 << 40}, {Rate: 100, Ceiling: 70000}}}}
		r, _, e := result.Work(p, value.Inputs{Base: c.base}, c.extra, y, l)
		if e != api.OK || r.Held != c.held {
			t.Fatalf("Work: %v, %d", r, e)
		}
		t.Run(fmt.Sprint(i), func(t *testing.T) {
			entry := book.Entry{Run: 1, Period: jan, Id: 7, Centre: 31, R: r}
			tells(t, entry, l, of(31, c.want...))
			isEven(t, of(31, c.want...))
			isEven(t, less(of(31, c.want...)))
		})
	}
}

// hired is a master of these people, each with the orders of that many creditors: 100 and their Id, 101 and so on.
func hired(t *testing.T, many map[int]int) master.Master {
	t.Helper()
	var m master.Master
	var e api.Errno
	for id, orders := range many {
		if m, e = master.Hire(m, id, master.Record{From: jan}); e != api.OK {
			t.Fatalf("Hire: %d", e)
		}
		for i := range orders {
			if m, e = master.Claim(m, id, api.Order{Creditor: 100 + id + i, Priority: 1, Claim: 1, Balance: 1}); e != api.OK {
				t.Fatalf("Claim: %d", e)
			}
		}
	}
	return m
}

// garnished is an entry of an Id that has those amounts.
func garnished(id int, centre int, l ...int) book.Entry {
	return book.Entry{Id: id, Period: jan, Centre: centre, R: result.Result{Garnished: l}}
}

// P21.1: of all entries, in order, those that are not live, too, by the orders of their people; people whom the master has not have none.
func TestAll(t *testing.T) {
	m := hired(t, map[int]int{5: 2, 7: 1, 9: 8, 3: 0})
	one, two := garnished(7, 3, 50), garnished(5, 4, 60, 70)
	one.R.Raw.Gross, two.R.Net = 50, -130
	back := one
	back.Back = 1
	nobody := book.Entry{Id: 8, Centre: 6, R: result.Result{Tax: 1}}
	none := book.Entry{Id: 3, Centre: 2, R: result.Result{Short: 2}}
	b := book.Book{Entries: []book.Entry{one, two, nobody, back, {Id: 9}, none, one}}
	first := of(3, 4000, 50, 3107, -50)
	want := slices.Concat(first, of(4, 2000, 130, 3105, -60, 3106, -70), of(6, 2100, -1), less(first), of(2, 1700, 2), first)
	if got, e := holdAll(t, b, m); !slices.Equal(got, want) || e != api.OK {
		t.Errorf("All: %v, %d; want %v", got, e, want)
	}
	for _, b := range []book.Book{{}, {Entries: []book.Entry{}}, {Entries: make([]book.Entry, 5)}} {
		for _, m := range []master.Master{{}, m} {
			if got, e := holdAll(t, b, m); len(got) != 0 || e != api.OK {
				t.Errorf("All of nothing: %v, %d", got, e)
			}
		}
	}
	for id, many := range map[int]int{9: 8, 7: 1, 5: 2, 3: 0, 8: 0, 0: 0, -7: 0, math.MinInt: 0, math.MaxInt: 0} {
		for n := range 10 {
			b := book.Book{Entries: []book.Entry{one, garnished(id, 1, make([]int, n)...)}}
			_, e := holdAll(t, b, m)
			if want := map[bool]api.Errno{true: api.OK, false: api.ErrArg}[n <= many]; e != want {
				t.Errorf("All of %d of %d: %d", n, id, e)
			}
		}
	}
}

// P21.1: the first entry's error, and no postings of those ahead of it.
func TestAllErrors(t *testing.T) {
	m := hired(t, map[int]int{7: 1})
	right, over, wrong := garnished(7, 3, 50), book.Entry{Id: 7, R: result.Result{Net: far + 1}}, garnished(7, 3, 1, 2)
	for _, c := range []struct {
		l    []book.Entry
		want api.Errno
	}{
		{[]book.Entry{right, right, right}, api.OK},
		{[]book.Entry{over}, api.ErrOver}, {[]book.Entry{wrong}, api.ErrArg},
		{[]book.Entry{over, wrong}, api.ErrOver}, {[]book.Entry{wrong, over}, api.ErrArg},
		{[]book.Entry{right, right, over, right, wrong}, api.ErrOver}, {[]book.Entry{right, wrong, right, over, over}, api.ErrArg},
		{[]book.Entry{right, right, garnished(8, 3, 0)}, api.ErrArg}, {[]book.Entry{garnished(8, 3, 1<<60)}, api.ErrOver},
	} {
		for _, back := range []int{0, 2} {
			l := slices.Clone(c.l)
			for i := range l {
				l[i].Back = back
			}
			if got, e := holdAll(t, book.Book{Entries: l}, m); (got == nil) == (e == api.OK) || e != c.want {
				t.Errorf("All(%v): %v, %d; want %d", c.l, got, e, c.want)
			}
		}
	}
}

// P21.1: Creditors of the master's people, also such as no call of layer 13 puts there.
func TestAllCreditors(t *testing.T) {
	for n, want := range map[int]api.Errno{0: api.ErrArg, 1: api.OK, 999: api.OK, 1000: api.ErrArg, -5: api.ErrArg} {
		m := master.Master{People: []master.Person{{Id: 7, Orders: creditors(n, 0)}}}
		got, e := holdAll(t, book.Book{Entries: []book.Entry{garnished(7, 1, 5)}}, m)
		if e != want || e == api.OK && !slices.Equal(got, of(1, 3000+n, -5)) {
			t.Errorf("All with %d: %v, %d", n, got, e)
		}
	}
}

// P21.2: balances of accounts and centres; a centre below 0 is all of them.
func TestBalance(t *testing.T) {
	l := slices.Concat(of(1, 4000, 100, 2000, -80, 2100, -20), of(2, 4000, 50, 2000, -50), of(0, 4000, 7), of(1, 4000, -30, 2000, 30), of(-3, 4000, 1000))
	for _, c := range []struct{ account, centre, want int }{
		{4000, 1, 70}, {4000, 2, 50}, {4000, 0, 7}, {4000, 3, 0}, {4000, -1, 1127}, {4000, -3, 1127}, {4000, math.MinInt, 1127}, {4000, math.MaxInt, 0},
		{2000, 1, -50}, {2000, 2, -50}, {2000, 0, 0}, {2000, -1, -100}, {2100, 1, -20}, {2100, 2, 0}, {2100, -1, -20},
		{0, -1, 0}, {1700, -1, 0}, {-4000, -1, 0}, {400, -1, 0}, {math.MinInt, math.MinInt, 0}, {1, 4000, 0},
	} {
		if got := holdBalance(t, l, c.account, c.centre); got != c.want {
			t.Errorf("Balance of %d, %d: %d, not %d", c.account, c.centre, got, c.want)
		}
		for _, none := range [][]journal.Posting{nil, {}} {
			if got := holdBalance(t, none, c.account, c.centre); got != 0 {
				t.Errorf("Balance of nothing: %d", got)
			}
		}
	}
	big := of(1, 5, api.Most, 5, -api.Most, 5, math.MinInt, 5, math.MaxInt)
	if got := holdBalance(t, big, 5, 1); got != -1 {
		t.Errorf("Balance of great ones: %d", got)
	}
}

// P21.2: debits and credits, and the edges of all together.
func TestTotals(t *testing.T) {
	const most = 1 << 53
	for _, c := range []struct {
		l               []int
		debits, credits float64
		e               api.Errno
	}{
		{nil, 0, 0, api.OK}, {[]int{0}, 0, 0, api.OK}, {[]int{0, 0, 0}, 0, 0, api.OK},
		{[]int{5}, 5, 0, api.OK}, {[]int{-5}, 0, 5, api.OK}, {[]int{5, -5}, 5, 5, api.OK}, {[]int{5, -3, 0, -2, 7, 1}, 13, 5, api.OK},
		{[]int{most}, most, 0, api.OK}, {[]int{-most}, 0, most, api.OK}, {[]int{most, 0}, most, 0, api.OK}, {[]int{0, -most, 0}, 0, most, api.OK},
		{[]int{most - 1, 1}, most, 0, api.OK}, {[]int{most - 1, -1}, most - 1, 1, api.OK}, {[]int{-1, most - 1}, most - 1, 1, api.OK}, {[]int{-most + 1, -1}, 0, most, api.OK}, {[]int{most / 2, -most / 2}, most / 2, most / 2, api.OK},
		{[]int{most - 1}, most - 1, 0, api.OK}, {[]int{1 - most}, 0, most - 1, api.OK}, {[]int{most/2 + 1, 1 - most/2}, most/2 + 1, most/2 - 1, api.OK},
		{[]int{most + 1}, 0, 0, api.ErrOver}, {[]int{-most - 1}, 0, 0, api.ErrOver}, {[]int{most, 1}, 0, 0, api.ErrOver}, {[]int{most, -1}, 0, 0, api.ErrOver}, {[]int{1, most}, 0, 0, api.ErrOver}, {[]int{-1, most}, 0, 0, api.ErrOver}, {[]int{-1, -most}, 0, 0, api.ErrOver},
		{[]int{most, -most}, 0, 0, api.ErrOver}, {[]int{most / 2, -most / 2, 1}, 0, 0, api.ErrOver}, {[]int{most / 2, -most / 2, -1}, 0, 0, api.ErrOver}, {[]int{most - 1, 1, 0, 1, -5}, 0, 0, api.ErrOver},
		{[]int{math.MaxInt}, 0, 0, api.ErrOver}, {[]int{-math.MaxInt}, 0, 0, api.ErrOver}, {[]int{math.MinInt}, 0, 0, api.ErrOver}, {[]int{math.MinInt, 1}, 0, 0, api.ErrOver}, {[]int{5, math.MinInt}, 0, 0, api.ErrOver}, {[]int{math.MinInt, math.MinInt}, 0, 0, api.ErrOver},
		{[]int{math.MaxInt, math.MaxInt, 2}, 0, 0, api.ErrOver}, {[]int{math.MaxInt, math.MinInt, 1}, 0, 0, api.ErrOver}, {slices.Repeat([]int{1 << 62}, 4), 0, 0, api.ErrOver}, {slices.Repeat([]int{1 << 53, -1 << 53}, 1<<10), 0, 0, api.ErrOver},
	} {
		var l []journal.Posting
		for i, n := range c.l {
			l = append(l, journal.Posting{Account: i, Centre: -i, Amount: n})
		}
		got, e := holdTotals(t, l)
		if got != complex(c.debits, c.credits) || e != c.e {
			t.Errorf("Totals(%v): %v, %d", c.l, got, e)
		}
		if math.Signbit(real(got)) || math.Signbit(imag(got)) {
			t.Errorf("Totals(%v): a part of %v is below 0, or -0", c.l, got)
		}
	}
}

// P21.2: each whole number up to 2^53 is told as it is, however many make it.
func TestTotalsAreWhole(t *testing.T) {
	var l []journal.Posting
	debits, credits := 0, 0
	for i := range 1 << 12 {
		n := 1<<40 - 3*i - 1
		l = append(l, of(1, 4000, n, 2000, -n-i%2)...)
		debits, credits = debits+n, credits+n+i%2
	}
	if got, e := holdTotals(t, l); e != api.OK || int(real(got)) != debits || int(imag(got)) != credits || debits == credits {
		t.Errorf("Totals: %v, %d; want %d, %d", got, e, debits, credits)
	}
}

// P21.3: an entry that is taken back leaves nothing in any account.
func TestTakenBack(t *testing.T) {
	m := hired(t, map[int]int{7: 2})
	b, e := book.Add(book.Book{}, full())
	if e != api.OK {
		t.Fatalf("Add: %d", e)
	}
	l, _ := holdAll(t, b, m)
	if b, e = book.Reverse(b, 0); e != api.OK {
		t.Fatalf("Reverse: %d", e)
	}
	both, e := holdAll(t, b, m)
	if e != api.OK || len(l) != 12 || !slices.Equal(both, slices.Concat(l, less(l))) {
		t.Errorf("All: %v, %d", both, e)
	}
	for _, p := range both {
		if holdBalance(t, both, p.Account, 44) != 0 || holdBalance(t, both, p.Account, -1) != 0 {
			t.Errorf("of %d there is something left", p.Account)
		}
	}
	isEven(t, both)
}

// R1, R4: answers are new memory, and the same again, whatever somebody writes into them or behind what was handed in.
func TestAgain(t *testing.T) {
	m, b := hired(t, map[int]int{7: 2}), book.Book{Entries: []book.Entry{full(), full()}}
	first, _ := holdAll(t, b, m)
	want := slices.Clone(first)
	clear(first)
	first = append(first[:3], of(0, 1, 2)...)
	if again, e := holdAll(t, b, m); !slices.Equal(again, want) || e != api.OK || &again[0] == &first[0] {
		t.Errorf("All again: %v, %d", again, e)
	}
	e := full()
	one, _ := hold(t, e, creditors(1, 2))
	clear(e.R.Paid)
	clear(e.R.Owed)
	clear(e.R.Garnished)
	two, _ := hold(t, full(), creditors(1, 2))
	if len(one) != 12 || !slices.Equal(one, two) || &one[0] == &two[0] {
		t.Errorf("Of again: %v, and %v", one, two)
	}
}
