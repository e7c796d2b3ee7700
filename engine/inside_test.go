package engine

import (
	"slices"
	"testing"

	"paymaster/api"
	"paymaster/book"
	"paymaster/master"
	"paymaster/result"
	"paymaster/value"
	"paymaster/withhold"
)

// P19.2: a Balance that is below 0 counts as 0. No calls make one, as no order is paid more than its Balance: so it stands in the book from the beginning.
func TestBalanceBelowNought(t *testing.T) {
	g := New()
	if _, e := g.Rules("earn pay = base;"); e != api.OK {
		t.Fatal(e)
	}
	g.Scheme(withhold.Scheme{Rows: []api.Row{{Above: 0, Rate: 1000}}}, 0)
	g.Hire(7, master.Record{From: 24276, In: value.Inputs{Base: 10000}})
	for i, balance := range []int{500, 499, 501, 100} {
		g.Claim(7, api.Order{Creditor: 1 + i, Priority: 1, Claim: 300, Balance: balance})
	}
	g.book.Entries = []book.Entry{{Run: 9, Period: 24000, Id: 7, R: result.Result{Garnished: []int{500, 500, 500, 1 << 45}}}}
	if n, e := g.Run(24276); n != 1 || e != api.OK {
		t.Fatalf("Run: %d, %d", n, e)
	}
	r := g.Book().Entries[1].R
	if !slices.Equal(r.Garnished, []int{0, 0, 1, 0}) || r.Net != 8999 {
		t.Errorf("%+v", r)
	}
	if n, e := g.Reverse(); n != 1 || e != api.OK {
		t.Errorf("Reverse: %d, %d", n, e)
	}
	if l := g.Master().People[0].Orders; l[0].Balance != 500 || l[3].Balance != 100 {
		t.Errorf("Orders: %v", l)
	}
}
