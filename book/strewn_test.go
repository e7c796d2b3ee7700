package book_test

import (
	"cmp"
	"slices"
	"testing"

	"paymaster/api"
	"paymaster/book"
	"paymaster/result"
)

// Strewn plays of calls, held against a diary of what is there; and strewn books of any kind, held against the second telling.

type strewn uint64

func (g *strewn) below(n int) int {
	*g = *g*6364136223846793005 + 1442695040888963407
	return int(*g>>33) % n
}

// amount is strewn, now and then below 0.
func (g *strewn) amount() int { return g.below(20000)<<g.below(20) - 5000 }

func (g *strewn) amounts(most int) []int {
	var l []int
	for range g.below(most + 1) {
		l = append(l, g.amount())
	}
	return l
}

func (g *strewn) sums() result.Sums {
	return result.Sums{Gross: g.amount(), Pretax: g.amount(), Post: g.amount()}
}

// entry is one of few people and periods, so that many are of the same.
func (g *strewn) entry(from int) book.Entry {
	e := book.Entry{Run: g.below(9), Id: 5 + g.below(3), Period: from + g.below(15), Centre: g.below(9)}
	e.R = result.Result{
		Raw: g.sums(), Extra: g.sums(), Taxable: g.amount(), Tax: g.amount(), Taken: g.amount(), Held: g.amount(), Net: g.amount(), Short: g.amount(),
		Paid: g.amounts(7), Owed: g.amounts(7), Garnished: g.amounts(4),
	}
	for range g.below(4) {
		e.Fixes = append(e.Fixes, book.Fix{Period: from + g.below(15), S: g.sums()})
	}
	return e
}

// periodsOf are those in which strewn entries may be, and one more on each side.
func periodsOf(from int) []int {
	var l []int
	for period := from - 1; period < from+16; period++ {
		l = append(l, period)
	}
	return l
}

// note is an entry of a diary, and its place in the book.
type note struct {
	at int
	e  book.Entry
}

// isTold: the book tells of each Id and Period what the diary has of them, and of no more.
func isTold(t *testing.T, b book.Book, diary map[[2]int]note, from int) {
	t.Helper()
	var live []int
	for _, n := range diary {
		live = append(live, n.at)
	}
	slices.Sort(live)
	livesAre(t, b, live...)
	for id := 4; id < 9; id++ {
		for _, period := range periodsOf(from) {
			n, there := diary[[2]int{id, period}]
			if !there {
				n.at = -1
			}
			finds(t, b, id, period, n.at)
		}
	}
}

// rest is a book of what the diary has alone, in order.
func rest(t *testing.T, diary map[[2]int]note) book.Book {
	t.Helper()
	var l []note
	for _, n := range diary {
		l = append(l, n)
	}
	slices.SortFunc(l, func(a, b note) int { return cmp.Compare(a.at, b.at) })
	var b book.Book
	for _, n := range l {
		b, _ = add(t, b, n.e)
	}
	return b
}

// isRest: b is told as if it had never had but what is left.
func isRest(t *testing.T, b book.Book, left book.Book, from int) {
	t.Helper()
	for id := 4; id < 9; id++ {
		for _, period := range periodsOf(from) {
			if x, y := book.Known(b, id, period), book.Known(left, id, period); x != y {
				t.Fatalf("Known(%v, %d, %d): %v, and %v as if it had never been", b, id, period, x, y)
			}
			if x, y := book.Year(b, id, yearOf(period), 6), book.Year(left, id, yearOf(period), 6); !sameYear(x, y) {
				t.Fatalf("Year(%v, %d) of %d: %v, and %v as if it had never been", b, id, period, x, y)
			}
		}
		if x, y := book.Balances(b, id, orders(7, 8, 9, 10)), book.Balances(left, id, orders(7, 8, 9, 10)); !slices.Equal(x, y) {
			t.Fatalf("Balances(%v, %d): %v, and %v as if it had never been", b, id, x, y)
		}
	}
}

// step is one call, in the book and in the diary; it tells the error that came.
func (g *strewn) step(t *testing.T, b book.Book, diary map[[2]int]note, from int) (book.Book, api.Errno) {
	t.Helper()
	if g.below(3) > 0 {
		e := g.entry(from)
		if g.below(9) == 0 {
			e.Back = g.below(len(b.Entries)+2) - 1
		}
		c, f := add(t, b, e)
		if f == api.OK {
			diary[[2]int{e.Id, e.Period}] = note{len(b.Entries), e}
		}
		return c, f
	}
	at := g.below(len(b.Entries)+3) - 1
	c, f := holdReverse(t, b, at)
	if f == api.OK {
		delete(diary, [2]int{b.Entries[at].Id, b.Entries[at].Period})
	}
	return c, f
}

// P17.1 to P17.3: strewn plays.
func TestStrewnPlays(t *testing.T) {
	g := strewn(17)
	var errors [api.ErrShut + 1]int
	for i := range 60 {
		from, diary := []int{jan - 3, jan, -7, -30, 0}[i%5], map[[2]int]note{}
		var b book.Book
		for range 40 {
			var e api.Errno
			b, e = g.step(t, b, diary, from)
			errors[e]++
			isTold(t, b, diary, from)
		}
		isRest(t, b, rest(t, diary), from)
		hold(t, b, []int{4, 5, 6, 7, 8}, periodsOf(from), orders(7, 8, 9, 10, 11))
	}
	for _, e := range []api.Errno{api.OK, api.ErrArg, api.ErrNone, api.ErrThere} {
		if errors[e] < 40 {
			t.Errorf("%d times %d", errors[e], e)
		}
	}
}

// P17.1, P17.2: strewn books of any kind, also such as no calls make.
func TestStrewnBooks(t *testing.T) {
	g, live, dead := strewn(171), 0, 0
	for i := range 300 {
		from := []int{jan - 3, -7, -30}[i%3]
		var b book.Book
		count := g.below(20)
		for range count {
			e := g.entry(from)
			if g.below(3) == 0 {
				e.Back = g.below(count+5) - 2
			}
			b.Entries = append(b.Entries, e)
		}
		hold(t, b, []int{5, 6, 7, 8}, periodsOf(from), orders(1, 2, 3, 4, 5, 6, 7, 8)[:g.below(9)])
		for at, e := range b.Entries {
			switch {
			case book.Live(b, at):
				live++
			case e.Back == 0:
				dead++
			}
		}
		add(t, b, g.entry(from))
	}
	if live < 500 || dead < 200 {
		t.Errorf("%d live, %d taken back", live, dead)
	}
}
