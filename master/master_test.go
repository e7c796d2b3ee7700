package master_test

import (
	"fmt"
	"slices"
	"strconv"
	"testing"

	"paymaster/api"
	"paymaster/master"
	"paymaster/value"
)

const (
	least   = -1 << 63
	first   = 22800 // 1900-01
	last    = 35999 // 2999-12
	mostId  = 1<<31 - 1
	mostSum = 1 << 40
)

func record(from int, base int) master.Record {
	return master.Record{From: from, Centre: 5, In: value.Inputs{Base: base}}
}

func hire(id int, r master.Record) entry   { return entry{what: 'H', id: id, r: r} }
func change(id int, r master.Record) entry { return entry{what: 'C', id: id, r: r} }
func leave(id int, when int) entry         { return entry{what: 'L', id: id, when: when} }
func claim(id int, o api.Order) entry      { return entry{what: '!', id: id, o: o} }
func order(creditor int, of ...int) api.Order {
	o := api.Order{Creditor: creditor, Priority: 1, Claim: 50, Balance: 80}
	for i, n := range of {
		*[]*int{&o.Priority, &o.Claim, &o.Balance}[i] = n
	}
	return o
}

// played is what comes of calls, all of which are answered without an error, from the empty master.
func played(t *testing.T, calls ...entry) play {
	t.Helper()
	var g play
	for _, x := range calls {
		g = g.sure(t, x, api.OK)
	}
	return g
}

// idsOf are the Ids of people, as they stand.
func idsOf(m master.Master) []int {
	var ids []int
	for _, p := range m.People {
		ids = append(ids, p.Id)
	}
	return ids
}

// is: a person is found, and told as this.
func is(t *testing.T, m master.Master, p master.Person) {
	t.Helper()
	if q, e := master.Find(m, p.Id); fmt.Sprint(q) != fmt.Sprint(p) || e != api.OK {
		t.Errorf("Find(%v, %d): %v, %d, not %v", m, p.Id, q, e, p)
	}
}

func isAt(t *testing.T, m master.Master, id int, when int, want master.Record, f api.Errno) {
	t.Helper()
	if r, e := master.At(m, id, when); r != want || e != f {
		t.Errorf("At(%v, %d, %d): %v, %d, not %v, %d", m, id, when, r, e, want, f)
	}
}

func isStaff(t *testing.T, m master.Master, when int, want ...int) {
	t.Helper()
	if l := master.Staff(m, when); !slices.Equal(l, want) {
		t.Errorf("Staff(%v, %d): %v, not %v", m, when, l, want)
	}
}

// P13.1, P13.3: people are hired in any order, and stand by rising Id, each Hired in From, with that record, and nothing else.
func TestHire(t *testing.T) {
	all := value.Inputs{Base: 1, Bonus: 2, Hours: 3, Days: 4, Lead: true}
	l := map[int]master.Record{1: record(24276, 0), 2: record(last, mostSum), 7: {From: first, Centre: 999, In: all}, 8: {From: 24300}, 1000: record(24276, 7), mostId - 1: record(24277, 3), mostId: record(first, 5)}
	for _, ids := range [][]int{{1, 2, 7, 8, 1000, mostId - 1, mostId}, {mostId, mostId - 1, 1000, 8, 7, 2, 1}, {8, 1, mostId, 2, mostId - 1, 7, 1000}, {1000, 7, mostId - 1, 2, 1, mostId, 8}} {
		var g play
		for _, id := range ids {
			g = g.sure(t, hire(id, l[id]), api.OK)
		}
		if !slices.Equal(idsOf(g.m), []int{1, 2, 7, 8, 1000, mostId - 1, mostId}) {
			t.Errorf("hired %v: %v", ids, g.m)
		}
		for id, r := range l {
			is(t, g.m, master.Person{Id: id, Hired: r.From, Records: []master.Record{r}})
		}
		isStaff(t, g.m, first, 7, mostId)
		isStaff(t, g.m, 24276, 1, 7, 1000, mostId)
		isStaff(t, g.m, last, 1, 2, 7, 8, 1000, mostId-1, mostId)
	}
}

// P13.1: a change stands among the records by its From, or in place of the one of the same From, the first one too.
func TestChange(t *testing.T) {
	g := played(t, hire(9, record(24280, 1)), hire(3, record(24276, 2)))
	for _, x := range []struct {
		r    master.Record
		want []master.Record
	}{
		{record(24284, 3), []master.Record{record(24280, 1), record(24284, 3)}},
		{record(24282, 4), []master.Record{record(24280, 1), record(24282, 4), record(24284, 3)}},
		{record(24281, 5), []master.Record{record(24280, 1), record(24281, 5), record(24282, 4), record(24284, 3)}},
		{record(24282, 6), []master.Record{record(24280, 1), record(24281, 5), record(24282, 6), record(24284, 3)}},
		{record(24280, 7), []master.Record{record(24280, 7), record(24281, 5), record(24282, 6), record(24284, 3)}},
		{record(24284, 8), []master.Record{record(24280, 7), record(24281, 5), record(24282, 6), record(24284, 8)}},
		{record(24284, 8), []master.Record{record(24280, 7), record(24281, 5), record(24282, 6), record(24284, 8)}},
		{record(last, 9), []master.Record{record(24280, 7), record(24281, 5), record(24282, 6), record(24284, 8), record(last, 9)}},
		{record(last, 0), []master.Record{record(24280, 7), record(24281, 5), record(24282, 6), record(24284, 8), record(last, 0)}},
	} {
		g = g.sure(t, change(9, x.r), api.OK)
		is(t, g.m, master.Person{Id: 9, Hired: 24280, Records: x.want})
		is(t, g.m, master.Person{Id: 3, Hired: 24276, Records: []master.Record{record(24276, 2)}})
	}
	whole := master.Record{From: 24280, Centre: 999, In: value.Inputs{Base: mostSum, Bonus: 1, Hours: 2, Days: 3, Lead: true}}
	g = g.sure(t, change(9, whole), api.OK)
	isAt(t, g.m, 9, 24280, whole, api.OK)
	g = g.sure(t, change(9, record(24279, 1)), api.ErrArg)
	g = g.sure(t, change(9, record(first, 1)), api.ErrArg)

	early := played(t, hire(1, record(first, 1)), change(1, record(first, 2)), change(1, record(last, 3)), change(1, record(first+1, 4)))
	is(t, early.m, master.Person{Id: 1, Hired: first, Records: []master.Record{record(first, 2), record(first+1, 4), record(last, 3)}})
	late := played(t, hire(1, record(last, 1)), change(1, record(last, 2)))
	is(t, late.m, master.Person{Id: 1, Hired: last, Records: []master.Record{record(last, 2)}})
	late.sure(t, change(1, record(last-1, 3)), api.ErrArg)
}

// P13.1, P13.2: who is gone may be changed, and may owe, in periods ahead of Gone and behind it.
func TestGoneAndChanged(t *testing.T) {
	g := played(t, hire(9, record(24280, 1)), leave(9, 24285), change(9, record(24290, 2)), change(9, record(24283, 3)), claim(9, order(4)))
	is(t, g.m, master.Person{Id: 9, Hired: 24280, Gone: 24285, Records: []master.Record{record(24280, 1), record(24283, 3), record(24290, 2)}, Orders: []api.Order{order(4)}})
	isAt(t, g.m, 9, 24284, record(24283, 3), api.OK)
	isAt(t, g.m, 9, 24285, master.Record{}, api.ErrNone)
	isAt(t, g.m, 9, 24290, master.Record{}, api.ErrNone)
	g = g.sure(t, leave(9, 24291), api.OK)
	isAt(t, g.m, 9, 24290, record(24290, 2), api.OK)
}

// wrongRecords are records each of which has one field, or several, that is too little or too much.
func wrongRecords() []master.Record {
	var l []master.Record
	for _, from := range []int{least, -24276, -1, 0, 1, 2023, 11*12 + 1900, first - 1, last + 1, 36000, 1 << 40, api.Most} {
		l = append(l, record(from, 1))
	}
	for _, centre := range []int{least, -1, 1000, 1 << 32, api.Most} {
		l = append(l, master.Record{From: 24276, Centre: centre})
	}
	for _, n := range []int{least, -mostSum, -1, mostSum + 1, 1 << 41, api.Most} {
		for _, in := range []value.Inputs{{Base: n}, {Bonus: n}, {Hours: n}, {Days: n}, {Base: n, Bonus: n, Hours: n, Days: n, Lead: true}} {
			l = append(l, master.Record{From: 24276, Centre: 1, In: in}, master.Record{From: first - 1, Centre: 1000, In: in})
		}
	}
	return l
}

// edgeRecords are records whose fields are the least and the most that there are.
func edgeRecords() []master.Record {
	var l []master.Record
	for _, from := range []int{first, first + 1, 24276, last - 1, last} {
		for _, centre := range []int{0, 1, 998, 999} {
			for _, n := range []int{0, 1, mostSum - 1, mostSum} {
				for _, in := range []value.Inputs{{}, {Base: n}, {Bonus: n}, {Hours: n}, {Days: n, Lead: true}, {Base: n, Bonus: n, Hours: n, Days: n}} {
					l = append(l, master.Record{From: from, Centre: centre, In: in})
				}
			}
		}
	}
	return l
}

// P13.1: wrong Ids and records, of people who are there and of such who aren't, and of a full master: ErrArg, and the master as it was.
func TestWrongRecords(t *testing.T) {
	full := full(t)
	few := played(t, hire(7, record(first, 1)), hire(9, record(24280, 1)))
	for _, g := range []play{{}, few, full} {
		for _, r := range wrongRecords() {
			for _, id := range []int{7, 8, 9, 60} {
				g.sure(t, hire(id, r), api.ErrArg)
				g.sure(t, change(id, r), api.ErrArg)
			}
		}
		for _, id := range []int{least, -mostId, -7, -1, 0, mostId + 1, 1<<32 + 7, api.Most} {
			g.sure(t, hire(id, record(24280, 1)), api.ErrArg)
			g.sure(t, change(id, record(24280, 1)), api.ErrArg)
			g.sure(t, change(id, record(first-1, -1)), api.ErrArg)
		}
		g.sure(t, change(8, record(24280, 1)), noneBut(g, 8))
		g.sure(t, change(mostId, record(24280, 1)), api.ErrNone)
		g.sure(t, change(mostId, record(first, 1)), api.ErrNone)
	}
	for _, r := range edgeRecords() {
		one := played(t, hire(1, r))
		is(t, one.m, master.Person{Id: 1, Hired: r.From, Records: []master.Record{r}})
		changed := few.sure(t, change(7, r), api.OK)
		isAt(t, changed.m, 7, r.From, r, api.OK)
	}
}

// noneBut is OK if there is that person, else ErrNone.
func noneBut(g play, id int) api.Errno {
	if g.d.isThere(id) {
		return api.OK
	}
	return api.ErrNone
}

// full are people of Ids 1 to 50.
func full(t *testing.T) play {
	t.Helper()
	var g play
	for i := range 50 {
		g = g.sure(t, hire((i*17)%50+1, record(24276, i)), api.OK)
	}
	return g
}

// P13.1: 50 people, and one more; who is there is told ahead of that, and what is wrong ahead of both.
func TestFull(t *testing.T) {
	g := full(t)
	for i, id := range idsOf(g.m) {
		if id != i+1 {
			t.Fatalf("ids: %v", idsOf(g.m))
		}
		g.sure(t, hire(id, record(24277, 1)), api.ErrThere)
		g.sure(t, hire(id, record(24277, -1)), api.ErrArg)
		isAt(t, g.sure(t, change(id, record(24277, 1)), api.OK).m, id, 24277, record(24277, 1), api.OK)
	}
	for _, id := range []int{51, 52, mostId} {
		g.sure(t, hire(id, record(24276, 1)), api.ErrLong)
		g.sure(t, hire(id, record(first-1, 1)), api.ErrArg)
	}
	// Who has left is still one of them.
	for id := range 50 {
		g = g.sure(t, leave(id+1, 24278), api.OK)
	}
	g = g.sure(t, hire(51, record(24280, 1)), api.ErrLong)
	g.sure(t, hire(9, record(24280, 1)), api.ErrThere)
	isStaff(t, g.m, 24278)
}

// P13.2, P13.3: gone in the period behind Hired, in the last one, and not in Hired or ahead; the last word holds.
func TestLeave(t *testing.T) {
	g := played(t, hire(9, record(24280, 1)), hire(3, record(24276, 2)))
	for _, when := range []int{least, -24281, -1, 0, 1, 2023, first - 1, first, 24276, 24279, 24280, last + 1, 36000, 1 << 40, api.Most} {
		g.sure(t, leave(9, when), api.ErrArg)
		for _, id := range []int{least, -9, 0, 8, 10, mostId, mostId + 1, 1<<32 + 9, api.Most} {
			g.sure(t, leave(id, when), api.ErrNone)
		}
	}
	g.sure(t, leave(8, 24285), api.ErrNone)
	for _, when := range []int{24281, 24282, 24285, 24284, last, last - 1, 24281, 24281} {
		g = g.sure(t, leave(9, when), api.OK)
		is(t, g.m, master.Person{Id: 9, Hired: 24280, Gone: when, Records: []master.Record{record(24280, 1)}})
		is(t, g.m, master.Person{Id: 3, Hired: 24276, Records: []master.Record{record(24276, 2)}})
		isAt(t, g.m, 9, when-1, record(24280, 1), api.OK)
		isAt(t, g.m, 9, when, master.Record{}, api.ErrNone)
		isStaff(t, g.m, when-1, 3, 9)
		isStaff(t, g.m, when, 3)
		// A wrong one takes nothing back.
		g = g.sure(t, leave(9, 0), api.ErrArg)
		g = g.sure(t, leave(9, 24280), api.ErrArg)
	}
	g.sure(t, hire(9, record(24290, 1)), api.ErrThere)
	late := played(t, hire(1, record(last, 1)))
	for _, when := range []int{last - 1, last, last + 1} {
		late.sure(t, leave(1, when), api.ErrArg)
	}
	early := played(t, hire(1, record(first, 1)), leave(1, first+1))
	isStaff(t, early.m, first, 1)
	isStaff(t, early.m, first+1)
}

// P13.2: orders stand as they were told, whatever their Creditors and Priorities are.
func TestClaim(t *testing.T) {
	g := played(t, hire(9, record(24280, 1)), hire(3, record(24276, 2)))
	l := []api.Order{order(40, 3, 50, 80), order(7, 1, 1, 1), order(999, 999, mostSum, mostSum), order(1, 3, 1, mostSum), order(500, 2, mostSum, 1), order(41), order(39), order(2)}
	for i, o := range l {
		g = g.sure(t, claim(9, o), api.OK)
		is(t, g.m, master.Person{Id: 9, Hired: 24280, Records: []master.Record{record(24280, 1)}, Orders: l[:i+1]})
		is(t, g.m, master.Person{Id: 3, Hired: 24276, Records: []master.Record{record(24276, 2)}})
		for _, there := range l[:i+1] {
			g = g.sure(t, claim(9, order(there.Creditor, 5, 6, 7)), api.ErrThere)
			g = g.sure(t, claim(9, order(there.Creditor, 0, 6, 7)), api.ErrArg)
		}
	}
	g = g.sure(t, claim(9, order(42)), api.ErrLong)
	g = g.sure(t, claim(9, order(42, 1000)), api.ErrArg)
	g = g.sure(t, claim(3, order(40)), api.OK)
	is(t, g.m, master.Person{Id: 9, Hired: 24280, Records: []master.Record{record(24280, 1)}, Orders: l})
	is(t, g.m, master.Person{Id: 3, Hired: 24276, Records: []master.Record{record(24276, 2)}, Orders: []api.Order{order(40)}})
}

// P13.2: wrong orders, each field alone, and all together; of people who are not there that is told first.
func TestWrongOrders(t *testing.T) {
	g := played(t, hire(9, record(24280, 1)), claim(9, order(40)))
	var wrong []api.Order
	for _, n := range []int{least, -1, 0, 1000, 1 << 32, api.Most} {
		wrong = append(wrong, order(n), order(1, n), api.Order{Creditor: n, Priority: n, Claim: n, Balance: n})
	}
	for _, n := range []int{least, -mostSum, -1, 0, mostSum + 1, 1 << 41, api.Most} {
		wrong = append(wrong, order(1, 1, n), order(1, 1, 1, n), order(40, 1, n), order(40, 1, 1, n))
	}
	for _, o := range wrong {
		g.sure(t, claim(9, o), api.ErrArg)
		for _, id := range []int{least, 0, 8, mostId, 1<<32 + 9, api.Most} {
			g.sure(t, claim(id, o), api.ErrNone)
		}
	}
	g.sure(t, claim(8, order(1)), api.ErrNone)
	g.sure(t, claim(8, order(40)), api.ErrNone)
	for _, n := range []int{1, 2, 998, 999} {
		for _, sum := range []int{1, 2, mostSum - 1, mostSum} {
			g.sure(t, claim(9, order(n, 1000-n, sum, 1)), api.OK)
			g.sure(t, claim(9, order(n, n, 1, sum)), api.OK)
		}
	}
}

// P13.3: records at, between and behind others; periods ahead of Hired; of nobody.
func TestAt(t *testing.T) {
	g := played(t, hire(9, record(24280, 1)), change(9, record(24282, 2)), change(9, record(24286, 3)), hire(2, record(first, 4)), hire(4, record(last, 5)))
	for when, base := range map[int]int{24280: 1, 24281: 1, 24282: 2, 24283: 2, 24285: 2, 24286: 3, 24287: 3, last: 3} {
		r, e := master.At(g.m, 9, when)
		if r.In.Base != base || e != api.OK {
			t.Errorf("At %d: %v, %d, not %d", when, r, e, base)
		}
	}
	for _, when := range []int{least, -24280, -1, 0, first - 1, first, 24279} {
		isAt(t, g.m, 9, when, master.Record{}, api.ErrNone)
	}
	isAt(t, g.m, 2, first-1, master.Record{}, api.ErrNone)
	isAt(t, g.m, 2, first, record(first, 4), api.OK)
	isAt(t, g.m, 2, last, record(first, 4), api.OK)
	isAt(t, g.m, 4, last-1, master.Record{}, api.ErrNone)
	isAt(t, g.m, 4, last, record(last, 5), api.OK)
	for _, id := range []int{least, -9, -1, 0, 1, 3, 8, 10, mostId, mostId + 1, 1<<32 + 9, api.Most} {
		if p, e := master.Find(g.m, id); fmt.Sprint(p) != fmt.Sprint(master.Person{}) || e != api.ErrNone {
			t.Errorf("Find %d: %v, %d", id, p, e)
		}
		for _, when := range []int{least, 0, first, 24280, 24282, last, api.Most} {
			isAt(t, g.m, id, when, master.Record{}, api.ErrNone)
		}
	}
	// Nothing asks whether a period behind all of them is one.
	for _, when := range []int{last + 1, 1 << 40, api.Most} {
		isAt(t, g.m, 9, when, record(24286, 3), api.OK)
		isStaff(t, g.m, when, 2, 4, 9)
	}
}

// P13.3: of the empty master nobody is found.
func TestEmpty(t *testing.T) {
	for _, m := range []master.Master{{}, {People: []master.Person{}}} {
		play{m: m}.hold(t, []int{least, -1, 0, 1, 2, mostId, api.Most}, []int{least, -1, 0, first, 24276, last, api.Most})
		for _, x := range []entry{change(1, record(24276, 1)), leave(1, 24276), claim(1, order(1))} {
			play{m: m}.sure(t, x, api.ErrNone)
		}
		is(t, play{m: m}.sure(t, hire(1, record(24276, 1)), api.OK).m, master.Person{Id: 1, Hired: 24276, Records: []master.Record{record(24276, 1)}})
	}
}

// P13.3: those who have not come yet, those who work, and those who are gone, whatever order they were hired in.
func TestStaff(t *testing.T) {
	g := played(t, hire(30, record(24280, 1)), hire(4, record(24276, 1)), hire(100, record(24278, 1)), hire(1, record(24282, 1)), hire(31, record(24276, 1)),
		leave(4, 24279), leave(30, 24281), leave(1, 24283), change(100, record(24281, 2)))
	for when, want := range map[int][]int{0: nil, 24275: nil, 24276: {4, 31}, 24277: {4, 31}, 24278: {4, 31, 100}, 24279: {31, 100}, 24280: {30, 31, 100}, 24281: {31, 100}, 24282: {1, 31, 100}, 24283: {31, 100}, last: {31, 100}} {
		isStaff(t, g.m, when, want...)
	}
}

// strewn is a source of numbers that are strewn, and the same each time.
type strewn uint64

func (g *strewn) below(n int) int {
	*g = *g*6364136223846793005 + 1442695040888963407
	return int(*g>>33) % n
}

func of[T any](g *strewn, l ...T) T {
	return l[g.below(len(l))]
}

// period is mostly one of a few, so that many are the same.
func (g *strewn) period() int {
	if g.below(25) == 0 {
		return of(g, least, 0, first-1, first, last, last+1, api.Most)
	}
	return 24270 + g.below(16)
}

func (g *strewn) record() master.Record {
	input := func() int { return g.below(1 << 20) }
	r := master.Record{From: g.period(), Centre: g.below(1000), In: value.Inputs{Base: input(), Bonus: input(), Hours: input(), Days: input(), Lead: g.below(2) == 0}}
	if g.below(12) == 0 {
		*of(g, &r.Centre, &r.In.Base, &r.In.Bonus, &r.In.Hours, &r.In.Days) = of(g, least, -1, 0, 999, 1000, mostSum, mostSum+1, api.Most)
	}
	return r
}

func (g *strewn) order() api.Order {
	o := order(1+g.below(12), 1+g.below(5), 1+g.below(1<<20), 1+g.below(1<<20))
	if g.below(8) == 0 {
		*of(g, &o.Creditor, &o.Priority, &o.Claim, &o.Balance) = of(g, least, -1, 0, 1, 999, 1000, mostSum, mostSum+1, api.Most)
	}
	return o
}

// call is one of any sort, of one of so many people.
func (g *strewn) call(people int) entry {
	id := 1 + g.below(people)
	if g.below(30) == 0 {
		id = of(g, least, -1, 0, mostId, mostId+1, api.Most)
	}
	switch g.below(5) {
	case 0:
		return hire(id, g.record())
	case 1:
		return leave(id, g.period())
	case 2:
		return claim(id, g.order())
	}
	return change(id, g.record())
}

// P13.1 to P13.3: calls of all sorts, one behind the other.
func TestStrewn(t *testing.T) {
	g := strewn(131)
	came := make(map[string]int)
	ids := []int{least, -1, 0, 1, 2, 3, 5, 8, mostId, api.Most}
	periods := []int{least, 0, first, last, api.Most}
	for i := range 20 {
		periods = append(periods, 24268+i)
	}
	for i := range 60 {
		var now play
		people := []int{1, 3, 12}[i%3]
		for range []int{120, 90, 150}[i%3] {
			x := g.call(people)
			came[string(x.what)+strconv.Itoa(int(now.d.fault(x)))]++
			now = now.do(t, x)
		}
		now.hold(t, ids, periods)
	}
	for _, s := range []string{"H0", "H1", "H6", "C0", "C1", "C5", "L0", "L1", "L5", "!0", "!1", "!5", "!6", "!9"} {
		if came[s] < 15 {
			t.Errorf("%s came %d times: %v", s, came[s], came)
		}
	}
}

// P13.4: a change turns nothing of the periods ahead of it, nor of those from the next record on, nor of other people.
func TestNothingElse(t *testing.T) {
	g := strewn(132)
	changes := 0
	for range 40 {
		var now play
		for range 60 {
			x := g.call(4)
			next := now.do(t, x)
			if x.what == 'C' && now.d.fault(x) == api.OK {
				isChanged(t, now.m, next.m, x)
				changes++
			}
			now = next
		}
	}
	if changes < 200 {
		t.Errorf("%d changes", changes)
	}
}

// isChanged: a change turned what it should, and that alone.
func isChanged(t *testing.T, was master.Master, now master.Master, x entry) {
	t.Helper()
	p, _ := master.Find(was, x.id)
	until := api.Most
	for _, r := range slices.Backward(p.Records) {
		if r.From > x.r.From {
			until = r.From
		}
	}
	for when := 24265; when < 24290; when++ {
		if !slices.Equal(master.Staff(was, when), master.Staff(now, when)) {
			t.Fatalf("%+v turned who works in %d", x, when)
		}
		for _, id := range idsOf(was) {
			r, e := master.At(was, id, when)
			if id == x.id && e == api.OK && when >= x.r.From && when < until {
				r = x.r
			}
			isAt(t, now, id, when, r, e)
		}
	}
	for _, q := range was.People {
		if q.Id != x.id {
			is(t, now, q)
		}
	}
}

// R1, R3, R4: whatever was answered stays as it was, whatever came of it, and several that came of one do not know of one another.
func TestNothingKept(t *testing.T) {
	g := strewn(133)
	plays := []play{{}}
	told := []string{"{[]}"}
	for range 1500 {
		next := of(&g, plays...).do(t, g.call(4))
		plays, told = append(plays, next), append(told, toldOf(next))
	}
	for i, p := range plays {
		if toldOf(p) != told[i] {
			t.Fatalf("%d: %.500s, was %.500s", i, toldOf(p), told[i])
		}
	}
}

func toldOf(p play) string {
	return fmt.Sprint(p.m)
}

// R1: what lies behind the lists that are handed in stays as it was.
func TestBehind(t *testing.T) {
	g := played(t, hire(3, record(24276, 1)), hire(5, record(24276, 1)), hire(9, record(24276, 1)), change(5, record(24278, 2)), change(5, record(24280, 3)), claim(5, order(1)), claim(5, order(2)), claim(5, order(3)))
	was := told(g.m)
	people := slices.Clone(g.m.People)
	people[1].Records, people[1].Orders = people[1].Records[:2], people[1].Orders[:2]
	part := master.Master{People: people[:2]}
	for _, x := range []entry{hire(7, record(24276, 1)), hire(1, record(24276, 1)), change(5, record(24277, 1)), change(5, record(24282, 1)), change(5, record(24276, 1)), leave(5, 24280), claim(5, order(7))} {
		if _, e := call(part, x); e != api.OK {
			t.Errorf("%+v: %d", x, e)
		}
		if told(g.m) != was || people[2].Id != 9 {
			t.Fatalf("%+v left %s, was %s", x, told(g.m), was)
		}
	}
}

// P1: a record for each period, told in any order, and people at all edges, are told, and soon.
func TestLong(t *testing.T) {
	m, e := master.Hire(master.Master{}, 1, record(first, first))
	for i := range last - first {
		when := first + 1 + i*7919%(last-first)
		if m, e = master.Change(m, 1, record(when, when)); e != api.OK {
			t.Fatalf("%d: %d", when, e)
		}
	}
	for when := first; when <= last; when++ {
		if r, e := master.At(m, 1, when); r != record(when, when) || e != api.OK {
			t.Fatalf("At %d: %v, %d", when, r, e)
		}
	}
	if p, _ := master.Find(m, 1); len(p.Records) != last-first+1 {
		t.Errorf("%d records", len(p.Records))
	}
}

// P1: masters that came of no calls are answered something.
func TestNoMaster(t *testing.T) {
	odd := []master.Person{{}, {Id: 5}, {Id: 5, Hired: 3, Gone: 1}, {Id: -1, Hired: least, Gone: least}, {Id: 2, Records: []master.Record{record(9, 1), record(2, 1), record(least, 1), record(api.Most, 1)}, Orders: make([]api.Order, 20)}}
	m := master.Master{People: slices.Repeat(odd, 20)}
	for _, id := range []int{least, -1, 0, 1, 2, 5, api.Most} {
		for _, when := range []int{least, -1, 0, 3, 24276, last, api.Most} {
			for _, x := range []entry{hire(id, record(when, 1)), change(id, record(when, 1)), leave(id, when), claim(id, order(1))} {
				call(m, x)
			}
			master.At(m, id, when)
			master.Staff(m, when)
		}
		master.Find(m, id)
	}
	// Who has no record, or has one from ahead of Hired on, has none where nothing counts.
	m = master.Master{People: []master.Person{{Id: 3, Hired: 24276}, {Id: 4, Hired: 24280, Records: []master.Record{record(24276, 1)}}}}
	isAt(t, m, 3, 24277, master.Record{}, api.ErrNone)
	isAt(t, m, 4, 24279, master.Record{}, api.ErrNone)
	isStaff(t, m, 24279)
	isStaff(t, m, 24280, 4)
}
