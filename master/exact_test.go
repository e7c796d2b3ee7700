package master_test

import (
	"fmt"
	"slices"
	"testing"

	"paymaster/api"
	"paymaster/master"
)

// A second telling, by other means than the package's: a diary of all calls that were answered without an error,
// in their order, of which whatever there is now is told by going through all of it.

// entry is one call: H of Hire, C of Change, L of Leave, ! of Claim.
type entry struct {
	what byte
	id   int
	r    master.Record
	when int
	o    api.Order
}

type diary []entry

// of are the entries of a person, of some calls.
func (d diary) of(id int, calls string) diary {
	var l diary
	for _, x := range d {
		if x.id == id && slices.Contains([]byte(calls), x.what) {
			l = append(l, x)
		}
	}
	return l
}

func (d diary) isThere(id int) bool {
	return len(d.of(id, "H")) > 0
}

func (d diary) hired(id int) int {
	return d.of(id, "H")[0].r.From
}

func (d diary) gone(id int) int {
	gone := 0
	for _, x := range d.of(id, "L") {
		gone = x.when
	}
	return gone
}

// at is the record of the greatest From that is not behind the period, and of these the one told last.
func (d diary) at(id int, period int) (master.Record, api.Errno) {
	if !d.isThere(id) || period < d.hired(id) || d.gone(id) != 0 && period >= d.gone(id) {
		return master.Record{}, api.ErrNone
	}
	var best master.Record
	for _, x := range d.of(id, "HC") {
		if x.r.From <= period && x.r.From >= best.From {
			best = x.r
		}
	}
	return best, api.OK
}

func (d diary) ids() []int {
	var ids []int
	for _, x := range d {
		if x.what == 'H' {
			ids = append(ids, x.id)
		}
	}
	slices.Sort(ids)
	return ids
}

func (d diary) staff(period int) []int {
	return slices.DeleteFunc(d.ids(), func(id int) bool {
		_, e := d.at(id, period)
		return e != api.OK
	})
}

func (d diary) find(id int) (master.Person, api.Errno) {
	if !d.isThere(id) {
		return master.Person{}, api.ErrNone
	}
	p := master.Person{Id: id, Hired: d.hired(id), Gone: d.gone(id)}
	lasts := make(map[int]master.Record)
	for _, x := range d.of(id, "HC") {
		lasts[x.r.From] = x.r
	}
	for _, r := range lasts {
		p.Records = append(p.Records, r)
	}
	slices.SortFunc(p.Records, func(a, b master.Record) int { return a.From - b.From })
	for _, x := range d.of(id, "!") {
		p.Orders = append(p.Orders, x.o)
	}
	return p, api.OK
}

func (d diary) master() master.Master {
	var m master.Master
	for _, id := range d.ids() {
		p, _ := d.find(id)
		m.People = append(m.People, p)
	}
	return m
}

// fault is what the call is answered with: the first of what the document names, in its order, that is so.
func (d diary) fault(x entry) api.Errno {
	type rule struct {
		is bool
		e  api.Errno
	}
	there := d.isThere(x.id)
	var rules []rule
	switch x.what {
	case 'H':
		rules = []rule{{isWrong(x.id, x.r), api.ErrArg}, {there, api.ErrThere}, {len(d.ids()) == 50, api.ErrLong}}
	case 'C':
		rules = []rule{{isWrong(x.id, x.r), api.ErrArg}, {!there, api.ErrNone}, {there && x.r.From < d.hired(x.id), api.ErrArg}}
	case 'L':
		rules = []rule{{!there, api.ErrNone}, {there && (x.when < 22800 || x.when > 35999 || x.when <= d.hired(x.id)), api.ErrArg}}
	case '!':
		claims := d.of(x.id, "!")
		double := slices.ContainsFunc(claims, func(y entry) bool { return y.o.Creditor == x.o.Creditor })
		rules = []rule{{!there, api.ErrNone}, {isWrongOrder(x.o), api.ErrArg}, {double, api.ErrThere}, {len(claims) == 8, api.ErrLong}}
	}
	for _, r := range rules {
		if r.is {
			return r.e
		}
	}
	return api.OK
}

func isWrong(id int, r master.Record) bool {
	return id < 1 || id > 2147483647 || r.From < 22800 || r.From > 35999 || r.Centre < 0 || r.Centre > 999 ||
		min(r.In.Base, r.In.Bonus, r.In.Hours, r.In.Days) < 0 || max(r.In.Base, r.In.Bonus, r.In.Hours, r.In.Days) > 1099511627776
}

func isWrongOrder(o api.Order) bool {
	return min(o.Creditor, o.Priority, o.Claim, o.Balance) < 1 || max(o.Creditor, o.Priority) > 999 || max(o.Claim, o.Balance) > 1099511627776
}

// play is a master that came of calls, and the diary of them.
type play struct {
	m master.Master
	d diary
}

// do makes a call: its error is the diary's, the master it answers has just what the diary tells, and the one it was handed is as it was.
func (g play) do(t *testing.T, x entry) play {
	t.Helper()
	was, want := told(g.m), g.d.fault(x)
	m, e := call(g.m, x)
	if e != want {
		t.Fatalf("%+v of %.500s: %d, not %d", x, was, e, want)
	}
	if told(g.m) != was {
		t.Fatalf("%+v of %.500s left %.500s", x, was, told(g.m))
	}
	next := g.d
	if e == api.OK {
		next = append(slices.Clone(g.d), x)
	}
	if got, right := told(m), told(next.master()); got != right {
		t.Fatalf("%+v of %.500s, %d: %.500s, not %.500s", x, was, e, got, right)
	}
	return play{m, next}
}

// sure makes a call that is answered with e, and checks that it is.
func (g play) sure(t *testing.T, x entry, e api.Errno) play {
	t.Helper()
	if want := g.d.fault(x); want != e {
		t.Fatalf("%+v of %.500s: %d by the diary, not %d", x, told(g.m), want, e)
	}
	return g.do(t, x)
}

// hold: Find, At and Staff are what the diary tells.
func (g play) hold(t *testing.T, ids []int, periods []int) {
	t.Helper()
	was := told(g.m)
	for _, id := range ids {
		p, e := master.Find(g.m, id)
		if q, f := g.d.find(id); fmt.Sprint(p, e) != fmt.Sprint(q, f) {
			t.Fatalf("Find(%.500s, %d): %.300v, %d, not %.300v, %d", was, id, p, e, q, f)
		}
		for _, period := range periods {
			r, e := master.At(g.m, id, period)
			if q, f := g.d.at(id, period); r != q || e != f {
				t.Fatalf("At(%.500s, %d, %d): %v, %d, not %v, %d", was, id, period, r, e, q, f)
			}
		}
	}
	for _, period := range periods {
		if l, want := master.Staff(g.m, period), g.d.staff(period); !slices.Equal(l, want) {
			t.Fatalf("Staff(%.500s, %d): %v, not %v", was, period, l, want)
		}
	}
	if told(g.m) != was {
		t.Fatalf("what was asked left %.500s, not %.500s", told(g.m), was)
	}
}

func call(m master.Master, x entry) (master.Master, api.Errno) {
	switch x.what {
	case 'H':
		return master.Hire(m, x.id, x.r)
	case 'C':
		return master.Change(m, x.id, x.r)
	case 'L':
		return master.Leave(m, x.id, x.when)
	}
	return master.Claim(m, x.id, x.o)
}

// told is all that a master has.
func told(m master.Master) string {
	return fmt.Sprint(m)
}
