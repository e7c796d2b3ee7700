package retro_test

import (
	"math"
	"slices"
	"testing"

	"paymaster/api"
	"paymaster/book"
	"paymaster/master"
	"paymaster/result"
	"paymaster/retro"
	"paymaster/tree"
	"paymaster/value"
)

const (
	jan  = 24276 // 2023-01
	feb  = jan + 1
	mar  = jan + 2
	apr  = jan + 3
	dec  = jan + 11
	most = 1 << 40 // of an input that a master takes
)

// three is a program by which base, bonus and the days, in whole units, are the three sums.
const three = "earn pay = base; let day = 1.00; pretax plan = bonus; post meal = days * day;"

// read is the program that is read of a text without a fault.
func read(t *testing.T, s string) tree.Program {
	t.Helper()
	p, at, e := tree.Parse(s)
	if e != api.OK {
		t.Fatalf("Parse(%.300q): %d, %d", s, at, e)
	}
	return p
}

// record has three sums of base, bonus and 100 times days, by the program three.
func record(from int, base, bonus, days int) master.Record {
	return master.Record{From: from, Centre: 3, In: value.Inputs{Base: base, Bonus: bonus, Days: days, Hours: 9}}
}

// hired is m with somebody more, with records from the first one's From on.
func hired(t *testing.T, m master.Master, id int, l ...master.Record) master.Master {
	t.Helper()
	m, e := master.Hire(m, id, l[0])
	if e != api.OK {
		t.Fatalf("Hire(%d, %v): %d", id, l[0], e)
	}
	return changed(t, m, id, l[1:]...)
}

func changed(t *testing.T, m master.Master, id int, l ...master.Record) master.Master {
	t.Helper()
	for _, r := range l {
		c, e := master.Change(m, id, r)
		if e != api.OK {
			t.Fatalf("Change(%d, %v): %d", id, r, e)
		}
		m = c
	}
	return m
}

func gone(t *testing.T, m master.Master, id int, period int) master.Master {
	t.Helper()
	m, e := master.Leave(m, id, period)
	if e != api.OK {
		t.Fatalf("Leave(%d, %d): %d", id, period, e)
	}
	return m
}

func sums(gross, pretax, post int) result.Sums {
	return result.Sums{Gross: gross, Pretax: pretax, Post: post}
}

func fix(period int, gross, pretax, post int) book.Fix {
	return book.Fix{Period: period, S: sums(gross, pretax, post)}
}

// put is an entry by which a period was put down with those sums; what else there is in it counts for nothing here.
func put(id int, period int, raw result.Sums, l ...book.Fix) book.Entry {
	return book.Entry{
		Run: 4, Period: period, Id: id, Centre: 77, Fixes: l,
		R: result.Result{
			Lines: []result.Line{{Kind: "earn", Name: "pay", Amount: 999}}, Raw: raw, Extra: sums(7777, 888, 99),
			Taxable: 1111, Tax: 222, Taken: 33, Held: 4, Net: 55, Short: 6, Paid: []int{1, 2}, Owed: []int{3}, Garnished: []int{4},
		},
	}
}

// filled is the book of entries that are added one behind the other, without an error.
func filled(t *testing.T, l ...book.Entry) book.Book {
	t.Helper()
	return with(t, book.Book{}, l...)
}

func with(t *testing.T, b book.Book, l ...book.Entry) book.Book {
	t.Helper()
	for _, e := range l {
		c, f := book.Add(b, e)
		if f != api.OK {
			t.Fatalf("Add(%v, %v): %d", b, e, f)
		}
		b = c
	}
	return b
}

// reversed is b, with those places taken back, without an error.
func reversed(t *testing.T, b book.Book, places ...int) book.Book {
	t.Helper()
	for _, at := range places {
		c, e := book.Reverse(b, at)
		if e != api.OK {
			t.Fatalf("Reverse(%v, %d): %d", b, at, e)
		}
		b = c
	}
	return b
}

func nowIs(t *testing.T, p tree.Program, m master.Master, id int, period int, want result.Sums) {
	t.Helper()
	if s, e := holdNow(t, p, m, id, period); s != want || e != api.OK {
		t.Errorf("Now(%v, %d, %d): %v, %d, not %v", m, id, period, s, e, want)
	}
}

func nowFails(t *testing.T, p tree.Program, m master.Master, id int, period int, want api.Errno) {
	t.Helper()
	if s, e := holdNow(t, p, m, id, period); s != (result.Sums{}) || e != want {
		t.Errorf("Now(%v, %d, %d): %v, %d, not %d", m, id, period, s, e, want)
	}
}

func fixesAre(t *testing.T, p tree.Program, m master.Master, b book.Book, id int, period int, all result.Sums, want ...book.Fix) {
	t.Helper()
	if l, s, e := holdFixes(t, p, m, b, id, period); !slices.Equal(l, want) || s != all || e != api.OK {
		t.Errorf("Fixes(%v, %v, %d, %d): %v, %v, %d, not %v, %v", m, b, id, period, l, s, e, want, all)
	}
}

// nothing: there is nothing to put right.
func nothing(t *testing.T, p tree.Program, m master.Master, b book.Book, id int, periods ...int) {
	t.Helper()
	for _, period := range periods {
		fixesAre(t, p, m, b, id, period, result.Sums{})
	}
}

func fixesFail(t *testing.T, p tree.Program, m master.Master, b book.Book, id int, period int, want api.Errno) {
	t.Helper()
	if l, s, e := holdFixes(t, p, m, b, id, period); len(l) != 0 || s != (result.Sums{}) || e != want {
		t.Errorf("Fixes(%v, %v, %d, %d): %v, %v, %d, not %d", m, b, id, period, l, s, e, want)
	}
}

// The chapter's example: January put down with 100.00, and 120.00 now.
func TestExample(t *testing.T) {
	p, b := read(t, "earn pay = base;"), filled(t, put(5, jan, sums(10000, 0, 0)))
	fixesAre(t, p, hired(t, master.Master{}, 5, record(jan, 12000, 0, 0)), b, 5, feb, sums(2000, 0, 0), fix(jan, 2000, 0, 0))
	nothing(t, p, hired(t, master.Master{}, 5, record(jan, 10000, 0, 0)), b, 5, feb)
}

// P18.1: the sums now are those of the record that counts in the period, of that person, by the rules that are handed in.
func TestNow(t *testing.T) {
	m := hired(t, master.Master{}, 5, record(jan, 500, 40, 3), record(mar, 700, 50, 2), record(dec, 900, 60, 1))
	m = gone(t, hired(t, m, 6, record(feb, 10, 20, 30)), 6, apr)
	p := read(t, three)
	for period, want := range map[int]result.Sums{
		jan: sums(500, 40, 300), feb: sums(500, 40, 300), mar: sums(700, 50, 200), apr: sums(700, 50, 200), dec - 1: sums(700, 50, 200),
		dec: sums(900, 60, 100), dec + 1: sums(900, 60, 100), 40000: sums(900, 60, 100), api.Most: sums(900, 60, 100),
	} {
		nowIs(t, p, m, 5, period, want)
	}
	nowIs(t, p, m, 6, feb, sums(10, 20, 3000))
	nowIs(t, p, m, 6, mar, sums(10, 20, 3000))
	nowIs(t, read(t, "post a = 1.00; earn b = base * 2; let c = 9.00; earn d = base * 50.00%; pretax e = -bonus; post f = hours * 0.01;"), m, 5, apr, sums(1750, -50, 109))
	for _, s := range []string{"", "let a = base;", "earn a = 0.00; post b = bonus - bonus;"} {
		nowIs(t, read(t, s), m, 5, jan, result.Sums{})
	}
}

// P18.1: noughts of a person who is not there, not hired yet, or gone, also by rules that Lines takes none of.
func TestNowNoughts(t *testing.T) {
	m := gone(t, hired(t, hired(t, master.Master{}, 5, record(feb, 500, 40, 3)), 7, record(mar, 1, 2, 3)), 5, apr)
	for _, s := range []string{three, "earn a = hours;", "earn a = a;", "earn a = nobody;", "let base = 1;", "earn a = base * 999999999 * 999999999;"} {
		p := read(t, s)
		for _, period := range []int{math.MinInt, -feb, -1, 0, 1, jan - 12, jan, apr, dec, api.Most} {
			nowIs(t, p, m, 5, period, result.Sums{})
			nowIs(t, p, master.Master{}, 5, period, result.Sums{})
			nowIs(t, p, master.Master{People: []master.Person{}}, 5, period, result.Sums{})
		}
		for _, id := range []int{math.MinInt, -5, 0, 4, 6, 8, feb, api.Most} {
			nowIs(t, p, m, id, feb, result.Sums{})
		}
		nowIs(t, p, m, 7, feb, result.Sums{})
	}
	nowIs(t, tree.Program{Rules: []tree.Rule{{Kind: "earn", Name: "a", Root: 9}}}, m, 5, jan, result.Sums{})
}

// wrong are programs of which Lines answers an error, whatever the inputs are.
func wrong(t *testing.T) map[api.Errno][]tree.Program {
	return map[api.Errno][]tree.Program{
		api.ErrArg:   {{Rules: []tree.Rule{{Kind: "earn", Name: "a", Root: 9}}}, {Rules: []tree.Rule{{Kind: "grant", Name: "a"}}, Exprs: []tree.Expr{{Op: "amount"}}}, {Rules: []tree.Rule{{Kind: "earn", Name: "a"}}}},
		api.ErrNone:  {read(t, "earn a = nobody;"), read(t, "earn b = base; let a = nobody;")},
		api.ErrThere: {read(t, "let base = 1;"), read(t, "earn a = base; post a = base;")},
		api.ErrType:  {read(t, "earn a = hours;"), read(t, "earn b = base; pretax a = lead;"), read(t, "let a = base + hours;")},
		api.ErrCycle: {read(t, "earn a = a;"), read(t, "earn c = base; let a = b; let b = a;")},
		api.ErrOver:  {read(t, "earn a = 400000000000.00;"), read(t, "let a = 999999999 * 999999999 * 999; earn b = base;")},
	}
}

// P18.1: Lines' error, of rules that are wrong, and of inputs that are too much.
func TestNowErrors(t *testing.T) {
	m := hired(t, hired(t, master.Master{}, 5, record(jan, 500, 40, 3)), 6, record(jan, most, most, most))
	for e, programs := range wrong(t) {
		for _, p := range programs {
			for _, id := range []int{5, 6} {
				nowFails(t, p, m, id, jan, e)
				nowFails(t, p, m, id, dec, e)
			}
			nowIs(t, p, m, 7, jan, result.Sums{})
		}
	}
	nowIs(t, read(t, "earn a = base * 32; pretax b = bonus;"), m, 6, jan, sums(1<<45, most, 0)) // just what a line may be
	for s, want := range map[string]result.Sums{
		"earn a = base * 32 + 0.01;":                     sums(16001, 0, 0),
		"post a = 0.00; pretax b = -base * 33;":          sums(0, -16500, 0),
		"let a = base * days; earn b = min(base, 2.00);": sums(200, 0, 0),
	} {
		nowIs(t, read(t, s), m, 5, jan, want)
		nowFails(t, read(t, s), m, 6, jan, api.ErrOver)
	}
}

// P18.1: months that were put down right, too high and too low, in each of the three sums; rising, whatever the order of the entries.
func TestFixes(t *testing.T) {
	p := read(t, three)
	m := hired(t, master.Master{}, 5, record(jan-5, 500, 40, 3), record(mar, 700, 50, 2))
	low, high, right := put(5, jan, sums(450, 39, 250)), put(5, feb, sums(501, 60, 310)), put(5, mar, sums(700, 50, 200))
	for _, l := range [][]book.Entry{{low, high, right}, {right, high, low}, {high, low, right}} {
		b := filled(t, l...)
		fixesAre(t, p, m, b, 5, apr, sums(49, -19, 40), fix(jan, 50, 1, 50), fix(feb, -1, -20, -10))
		fixesAre(t, p, m, b, 5, dec, sums(49, -19, 40), fix(jan, 50, 1, 50), fix(feb, -1, -20, -10))
		fixesAre(t, p, m, b, 5, mar, sums(49, -19, 40), fix(jan, 50, 1, 50), fix(feb, -1, -20, -10))
		fixesAre(t, p, m, b, 5, feb, sums(50, 1, 50), fix(jan, 50, 1, 50))
		nothing(t, p, m, b, 5, jan, jan-1, dec+1, dec+2)
	}
	rises := changed(t, m, 5, record(jan, 1000, 40, 3), record(feb, 500, 45, 4), record(mar, 600, 0, 0))
	fixesAre(t, p, rises, filled(t, high, right, low), 5, apr, sums(449, -64, -60), fix(jan, 550, 1, 50), fix(feb, -1, -15, 90), fix(mar, -100, -50, -200))
	fixesAre(t, read(t, "earn a = 1.00;"), m, filled(t, right, low), 5, apr, sums(-950, -89, -450), fix(jan, -350, -39, -250), fix(mar, -600, -50, -200))
	fixesAre(t, read(t, ""), m, filled(t, right, low), 5, apr, sums(-1150, -89, -450), fix(jan, -450, -39, -250), fix(mar, -700, -50, -200))
}

// P18.1: each of the three sums alone makes a Fix, and one below 0 as well as one above it.
func TestOneSumAlone(t *testing.T) {
	p, m := read(t, three), hired(t, master.Master{}, 5, record(jan, 500, 40, 3))
	for _, n := range []int{-500, -1, 1, 70000} {
		fixesAre(t, p, m, filled(t, put(5, jan, sums(500-n, 40, 300))), 5, feb, sums(n, 0, 0), fix(jan, n, 0, 0))
		fixesAre(t, p, m, filled(t, put(5, jan, sums(500, 40-n, 300))), 5, feb, sums(0, n, 0), fix(jan, 0, n, 0))
		fixesAre(t, p, m, filled(t, put(5, jan, sums(500, 40, 300-n))), 5, feb, sums(0, 0, n), fix(jan, 0, 0, n))
	}
}

// P18.1: sums that are noughts together, but not one by one, are a Fix; and so are such of two months, which are noughts only when added.
func TestNoughtsTogether(t *testing.T) {
	p, m := read(t, three), hired(t, master.Master{}, 5, record(jan, 500, 40, 300))
	fixesAre(t, p, m, filled(t, put(5, jan, sums(493, 47, 30000))), 5, feb, sums(7, -7, 0), fix(jan, 7, -7, 0))
	fixesAre(t, p, m, filled(t, put(5, jan, sums(503, 39, 29998))), 5, feb, sums(-3, 1, 2), fix(jan, -3, 1, 2))
	fixesAre(t, p, m, filled(t, put(5, jan, sums(500, 33, 30007))), 5, feb, sums(0, 7, -7), fix(jan, 0, 7, -7))
	fixesAre(t, p, m, filled(t, put(5, jan, sums(493, 40, 30007))), 5, feb, sums(7, 0, -7), fix(jan, 7, 0, -7))
	fixesAre(t, p, m, filled(t, put(5, jan, sums(495, 30, 29985)), put(5, feb, sums(500, 40, 30000)), put(5, mar, sums(505, 50, 30015))), 5, apr, result.Sums{}, fix(jan, 5, 10, 15), fix(mar, -5, -10, -15))
	nothing(t, p, m, filled(t, put(5, jan, sums(500, 40, 30000)), put(5, feb, sums(500, 40, 30000))), 5, feb, mar)
}

// P18.1: of months without a live entry there is nothing: an empty book, one of months at and behind the period, and one of which all was taken back.
func TestNoLiveEntries(t *testing.T) {
	p, m := read(t, three), hired(t, master.Master{}, 5, record(jan, 500, 40, 3))
	all := []int{math.MinInt, -1, 0, 1, jan - 1, jan, feb, mar, dec, dec + 1, api.Most}
	for _, b := range []book.Book{{}, {Entries: []book.Entry{}}, reversed(t, filled(t, put(5, jan, sums(1, 2, 3)), put(5, mar, sums(1, 2, 3))), 0, 1)} {
		nothing(t, p, m, b, 5, all...)
		nothing(t, p, m, b, 4, all...)
		nothing(t, p, master.Master{}, b, 5, all...)
	}
	ahead := filled(t, put(5, mar, sums(1, 2, 3)), put(5, apr, sums(4, 5, 6)), put(5, dec, sums(7, 8, 9)))
	nothing(t, p, m, ahead, 5, jan, feb, mar, dec+1)
	fixesAre(t, p, m, ahead, 5, apr, sums(499, 38, 297), fix(mar, 499, 38, 297))
	fixesAre(t, p, m, reversed(t, ahead, 0), 5, dec, sums(496, 35, 294), fix(apr, 496, 35, 294))
	b := with(t, reversed(t, filled(t, put(5, jan, sums(1, 2, 3)), put(5, feb, sums(500, 40, 299))), 0), put(5, jan, sums(500, 41, 300)))
	fixesAre(t, p, m, b, 5, mar, sums(0, -1, 1), fix(jan, 0, -1, 0), fix(feb, 0, 0, 1))
	fixed := filled(t, put(5, feb, sums(500, 40, 300), fix(jan, 9, 9, 9)))
	nothing(t, p, m, fixed, 5, feb, mar) // January has a Fix, but no entry
}

// P18.1: the year of a period alone counts: from its first one on, which has nothing ahead of it, to its last one; and not those beside it.
func TestYears(t *testing.T) {
	p, m := read(t, "earn pay = base;"), hired(t, master.Master{}, 5, record(jan-30, 100, 0, 0))
	var b book.Book
	for period := jan - 13; period <= dec+13; period++ {
		b = with(t, b, put(5, period, sums(100-(period-jan), 0, 0)))
	}
	for _, first := range []int{jan - 12, jan, jan + 12} {
		var l []book.Fix
		for at := first; at < first+12; at++ {
			fixesAre(t, p, m, b, 5, at, allOf(l), l...)
			if at != jan {
				l = append(l, fix(at, at-jan, 0, 0))
			}
		}
	}
	nothing(t, p, m, b, 5, jan-12, jan, dec+1, dec+13, jan-24, dec+25)
	fixesAre(t, p, m, b, 5, mar, sums(1, 0, 0), fix(feb, 1, 0, 0))
	fixesAre(t, p, m, b, 5, jan-10, sums(-23, 0, 0), fix(jan-12, -12, 0, 0), fix(jan-11, -11, 0, 0))
}

// P18.1: Period by 12, cut off towards 0: the year 0 is from -11 to 11, those below 0 end with a period of which 12 is a part; and the last ints.
func TestStrangeYears(t *testing.T) {
	p, m := read(t, three), hired(t, master.Master{}, 5, record(jan, 500, 40, 3))
	var b book.Book
	for period := -40; period <= 40; period++ {
		b = with(t, b, put(5, period, sums(-1, 0, 0)))
	}
	for period, count := range map[int]int{
		0: 11, 1: 12, 11: 22, 12: 0, 13: 1, 23: 11, 24: 0, 36: 0, 40: 4, 41: 5, 47: 5, 48: 0,
		-1: 10, -10: 1, -11: 0, -12: 11, -13: 10, -22: 1, -23: 0, -24: 11, -35: 0, -36: 4, -39: 1, -40: 0, -41: 0, -47: 0,
	} {
		if l, s, e := holdFixes(t, p, m, b, 5, period); len(l) != count || s != sums(count, 0, 0) || e != api.OK {
			t.Errorf("%d: %v, %v, %d", period, l, s, e)
		}
	}
	var ends book.Book
	for i := range 20 {
		ends = with(t, ends, put(5, math.MinInt+i, sums(-1, 0, 0)), put(7, math.MaxInt-i, sums(-1, 0, 0)))
	}
	for i, count := range []int{0, 1, 2, 3, 4, 5, 6, 7, 8, 0, 1, 2} { // the least int's year has 9 periods, the one behind it 12
		if l, s, e := holdFixes(t, p, m, ends, 5, math.MinInt+i); len(l) != count || s != sums(count, 0, 0) || e != api.OK {
			t.Errorf("%d: %v, %v, %d", math.MinInt+i, l, s, e)
		}
	}
	for i, count := range []int{7, 6, 5, 4, 3, 2, 1, 0, 11, 10} { // the greatest int's year has 8
		if l, s, e := holdFixes(t, p, m, ends, 7, math.MaxInt-i); len(l) != count || s != sums(count, 0, 0) || e != api.OK {
			t.Errorf("%d: %v, %v, %d", math.MaxInt-i, l, s, e)
		}
	}
}

// P18.1: a person who is gone from a month on, was hired later, or is none of the master's: noughts, so that all that is known is put right.
func TestNotThere(t *testing.T) {
	p, m := read(t, three), hired(t, master.Master{}, 5, record(jan, 500, 40, 3))
	right := sums(500, 40, 300)
	b := filled(t, put(5, jan, right), put(5, feb, right), put(5, mar, right))
	nothing(t, p, m, b, 5, apr)
	fixesAre(t, p, gone(t, m, 5, mar), b, 5, apr, sums(-500, -40, -300), fix(mar, -500, -40, -300))
	fixesAre(t, p, gone(t, m, 5, feb), b, 5, apr, sums(-1000, -80, -600), fix(feb, -500, -40, -300), fix(mar, -500, -40, -300))
	nothing(t, p, gone(t, m, 5, apr), b, 5, apr, dec)
	later := hired(t, master.Master{}, 5, record(mar, 500, 40, 3))
	fixesAre(t, p, later, b, 5, apr, sums(-1000, -80, -600), fix(jan, -500, -40, -300), fix(feb, -500, -40, -300))
	three := []book.Fix{fix(jan, -500, -40, -300), fix(feb, -500, -40, -300), fix(mar, -500, -40, -300)}
	fixesAre(t, p, master.Master{}, b, 5, apr, sums(-1500, -120, -900), three...)
	fixesAre(t, p, hired(t, master.Master{}, 6, record(jan, 500, 40, 3)), b, 5, apr, sums(-1500, -120, -900), three...)
	nothing(t, p, m, b, 6, apr, dec)
	none := filled(t, put(5, jan, right, fix(jan, -500, -40, -300)), put(5, feb, result.Sums{}))
	nothing(t, p, master.Master{}, none, 5, mar)
}

// P18.1: Fixes that were made already count as known, once each, in whatever entry of the person they are; such as were taken back do not.
func TestFixesMade(t *testing.T) {
	p, m := read(t, three), hired(t, master.Master{}, 5, record(jan, 500, 40, 3))
	b := filled(t, put(5, jan, sums(400, 40, 300)), put(5, feb, sums(500, 40, 300)))
	fixesAre(t, p, m, b, 5, mar, sums(100, 0, 0), fix(jan, 100, 0, 0))
	made := with(t, b, put(5, mar, sums(500, 40, 300), fix(jan, 100, 0, 0)))
	nothing(t, p, m, made, 5, mar, apr, dec)
	back := reversed(t, made, 2)
	fixesAre(t, p, m, back, 5, mar, sums(100, 0, 0), fix(jan, 100, 0, 0))
	fixesAre(t, p, m, back, 5, dec, sums(100, 0, 0), fix(jan, 100, 0, 0))
	nothing(t, p, m, with(t, back, put(5, mar, sums(500, 40, 300), fix(jan, 100, 0, 0))), 5, apr)
	fixesAre(t, p, m, with(t, back, put(5, mar, sums(500, 40, 300), fix(jan, 60, 1, -2))), 5, apr, sums(40, -1, 2), fix(jan, 40, -1, 2))
	more := changed(t, m, 5, record(jan, 530, 40, 3), record(feb, 500, 40, 3))
	fixesAre(t, p, more, made, 5, apr, sums(30, 0, 0), fix(jan, 30, 0, 0))
	twice := with(t, made, put(5, apr, sums(500, 40, 300), fix(jan, 30, 0, 0)))
	nothing(t, p, more, twice, 5, apr, dec)
	fixesAre(t, p, m, twice, 5, dec, sums(-30, 0, 0), fix(jan, -30, 0, 0))
	fixesAre(t, p, m, reversed(t, twice, 2), 5, dec, sums(70, 0, 0), fix(jan, 70, 0, 0))
	fixesAre(t, p, m, reversed(t, twice, 0), 5, dec, result.Sums{})
	fixesAre(t, p, m, with(t, twice, put(5, dec+1, sums(0, 0, 0), fix(jan, 5, 5, 5), fix(mar, 1, 0, 0), fix(jan, 2, 0, 0))), 5, dec, sums(-38, -5, -5), fix(jan, -37, -5, -5), fix(mar, -1, 0, 0))
}

// P18.1: entries and Fixes of other people, and their records, count for nothing; of several people each has their own Fixes.
func TestSeveralPeople(t *testing.T) {
	p := read(t, three)
	m := hired(t, hired(t, hired(t, master.Master{}, 5, record(jan, 500, 40, 3)), 9, record(jan, 900, 90, 9)), 7, record(feb, 700, 70, 7))
	b := filled(t, put(5, jan, sums(500, 40, 300)), put(9, jan, sums(800, 80, 800)), put(5, feb, sums(500, 40, 310), fix(jan, 0, 0, 0)), put(7, feb, sums(701, 70, 700), fix(jan, 1, 1, 1)),
		put(9, feb, sums(900, 90, 900), fix(feb, 3, 0, 0)), put(8, jan, sums(0, 0, 5)), put(-5, feb, sums(6, 0, 0)))
	fixesAre(t, p, m, b, 5, mar, sums(0, 0, -10), fix(feb, 0, 0, -10))
	fixesAre(t, p, m, b, 7, mar, sums(-1, 0, 0), fix(feb, -1, 0, 0))
	fixesAre(t, p, m, b, 9, mar, sums(97, 10, 100), fix(jan, 100, 10, 100), fix(feb, -3, 0, 0))
	fixesAre(t, p, m, b, 8, mar, sums(0, 0, -5), fix(jan, 0, 0, -5))
	fixesAre(t, p, m, b, -5, mar, sums(-6, 0, 0), fix(feb, -6, 0, 0))
	nothing(t, p, m, b, 6, feb, mar)
	nothing(t, p, m, b, jan, 5, mar)
	nothing(t, p, m, reversed(t, b, 1), 9, feb)
	fixesAre(t, p, m, reversed(t, b, 1), 5, mar, sums(0, 0, -10), fix(feb, 0, 0, -10))
}

// P18.1: rules that Lines takes none of: its error, and nothing else; but none where no month is asked, or all that are have noughts.
func TestWrongRules(t *testing.T) {
	m := hired(t, master.Master{}, 5, record(feb, 500, 40, 3))
	b := filled(t, put(5, feb, sums(500, 40, 300)), put(5, mar, sums(1, 2, 3)), put(6, feb, sums(1, 2, 3)))
	for e, programs := range wrong(t) {
		for _, p := range programs {
			fixesFail(t, p, m, b, 5, mar, e)
			fixesFail(t, p, m, b, 5, dec, e)
			nothing(t, p, m, b, 5, feb, jan, dec+1, jan-1)
			nothing(t, p, m, b, 7, mar, dec)
			nothing(t, p, m, reversed(t, b, 0, 1), 5, mar, dec)
			fixesAre(t, p, m, b, 6, dec, sums(-1, -2, -3), fix(feb, -1, -2, -3))
			fixesAre(t, p, master.Master{}, b, 5, mar, sums(-500, -40, -300), fix(feb, -500, -40, -300))
			fixesFail(t, p, gone(t, m, 5, mar), b, 5, apr, e)
		}
	}
}

// P18.1: inputs that are too much of one month among others: ErrOver, whatever there is to put right ahead of it, or behind it; but only if the month is asked.
func TestTooMuchOfOneMonth(t *testing.T) {
	for _, s := range []string{"earn pay = base * 33;", "let a = base * hours * days; earn pay = base * 33;", "earn pay = base * 33; post other = base * 40;"} {
		p := read(t, s)
		for at := jan; at < apr; at++ {
			m := hired(t, master.Master{}, 5, record(jan-1, 100, 0, 1), record(at, most, 0, most), record(at+1, 100, 0, 1))
			var b book.Book
			for period := jan; period < apr; period++ {
				b = with(t, b, put(5, period, sums(3300, 0, 9)))
			}
			for period := jan; period <= dec; period++ {
				if period > at {
					fixesFail(t, p, m, b, 5, period, api.ErrOver)
				} else {
					_, _, e := holdFixes(t, p, m, b, 5, period)
					if e != api.OK {
						t.Errorf("%d is too much, and %d was told %d", at, period, e)
					}
				}
			}
			if _, _, e := holdFixes(t, p, m, reversed(t, b, at-jan), 5, dec); e != api.OK {
				t.Errorf("%d is too much, and taken back: %d", at, e)
			}
		}
	}
}

// P18.1: of several months that Lines takes none of, the first one's error; the months that are not asked have none.
func TestFirstError(t *testing.T) {
	m := hired(t, master.Master{}, 5, record(jan, 100, 0, 0), record(feb, most, 0, 0), record(mar, most, most, 0))
	m = gone(t, m, 5, apr)
	p := read(t, "earn pay = base * 33;")
	b := filled(t, put(5, jan, sums(1, 0, 0)), put(5, feb, sums(1, 0, 0)), put(5, mar, sums(1, 0, 0)), put(5, apr, sums(1, 0, 0)))
	fixesAre(t, p, m, b, 5, feb, sums(3299, 0, 0), fix(jan, 3299, 0, 0))
	fixesFail(t, p, m, b, 5, mar, api.ErrOver)
	fixesFail(t, p, m, b, 5, dec, api.ErrOver)
	fixesFail(t, p, m, reversed(t, b, 1), 5, dec, api.ErrOver)
	fixesAre(t, p, m, reversed(t, b, 1, 2), 5, dec, sums(3298, 0, 0), fix(jan, 3299, 0, 0), fix(apr, -1, 0, 0))
}

// P18.2: behind an entry that has these Fixes there is nothing more to put right ahead of its period, until the master or the rules change.
func TestPutRight(t *testing.T) {
	p, m := read(t, three), hired(t, master.Master{}, 5, record(jan, 500, 40, 3))
	var b book.Book
	for period := jan; period <= dec; period++ {
		l, s, e := holdFixes(t, p, m, b, 5, period)
		if e != api.OK || s != allOf(l) {
			t.Fatalf("Fixes of %d: %v, %v, %d", period, l, s, e)
		}
		now, _ := holdNow(t, p, m, 5, period)
		b = with(t, b, put(5, period, now, l...))
		nothing(t, p, m, b, 5, period, period+1)
		m = changed(t, m, 5, record(jan+(period*5)%12, 500+period, 40, period%7), record(period, 300-period%3, period%5, 1))
		p = read(t, []string{three, "earn pay = base * 2; pretax plan = bonus;", "earn pay = base; post meal = 5.00;"}[period%3])
		if period > jan && len(l) == 0 {
			t.Errorf("nothing to put right ahead of %d", period)
		}
	}
}

// R1, R4: the Fixes are new memory; the same is answered again, whatever is written into them.
func TestNewMemory(t *testing.T) {
	p, m := read(t, three), hired(t, master.Master{}, 5, record(jan, 500, 40, 3))
	b := filled(t, put(5, jan, sums(1, 2, 3)), put(5, feb, sums(4, 5, 6), fix(jan, 7, 8, 9)))
	want := []book.Fix{fix(jan, 492, 30, 288), fix(feb, 496, 35, 294)}
	for range 3 {
		l, s, e := retro.Fixes(p, m, b, 5, mar)
		if !slices.Equal(l, want) || s != sums(988, 65, 582) || e != api.OK {
			t.Fatalf("Fixes: %v, %v, %d", l, s, e)
		}
		clear(l[:cap(l)])
	}
	if !slices.Equal(b.Entries[1].Fixes, []book.Fix{fix(jan, 7, 8, 9)}) {
		t.Errorf("the book's Fixes are written to: %v", b.Entries[1].Fixes)
	}
}

// P1: no call panics, and each ends, whatever it is handed: masters and books that came of no calls, programs of no text, and sums that are no int.
func TestOddArguments(t *testing.T) {
	odd := []int{math.MinInt, -api.Most, -1 << 50, -13, -12, -1, 0, 1, 2, 5, 12, jan, feb, 1 << 50, api.Most - 1, api.Most}
	var m master.Master
	var b book.Book
	for i, n := range odd {
		k := odd[len(odd)-1-i]
		m.People = append(m.People, master.Person{Id: n, Hired: k, Gone: odd[(i*7)%len(odd)], Records: []master.Record{record(k, n, k, n), record(n, k, n, k)}[:i%3]})
		b.Entries = append(b.Entries, put(n, k, sums(n, k, n), fix(n, k, n, k)), put(5, n, sums(n, n, k), fix(k, n, n, n)))
		b.Entries[len(b.Entries)-1].Back = odd[(i*5)%len(odd)]
	}
	for _, p := range []tree.Program{read(t, three), {}, {Rules: []tree.Rule{{Root: -1}}, Exprs: []tree.Expr{{A: 5}}}, {Exprs: []tree.Expr{{Op: "+"}}}} {
		for _, id := range odd {
			for _, period := range odd {
				retro.Now(p, m, id, period)
				l, s, e := retro.Fixes(p, m, b, id, period)
				if s != allOf(l) || e != api.OK && len(l) > 0 {
					t.Fatalf("Fixes(%d, %d): %v, %v, %d", id, period, l, s, e)
				}
				holdFixes(t, p, master.Master{}, b, id, period)
			}
		}
	}
}

// P18.1: where what is known goes far, a Fix is still what is missing, wrapped round where it is no int.
func TestFarSums(t *testing.T) {
	p, m := read(t, three), hired(t, master.Master{}, 5, record(jan, 500, 40, 3))
	fixesAre(t, p, m, filled(t, put(5, jan, sums(api.Most, -api.Most+40, 300))), 5, feb, sums(500-api.Most, api.Most, 0), fix(jan, 500-api.Most, api.Most, 0))
	fixesAre(t, p, m, filled(t, put(5, jan, sums(math.MinInt, 40, 300))), 5, feb, sums(math.MinInt+500, 0, 0), fix(jan, math.MinInt+500, 0, 0))
	fixesAre(t, p, m, filled(t, put(5, jan, sums(math.MinInt, 40, 300)), put(5, feb, sums(math.MinInt, 40, 300))), 5, mar, sums(1000, 0, 0), fix(jan, math.MinInt+500, 0, 0), fix(feb, math.MinInt+500, 0, 0))
}

// P1: a book of very many entries of which all but two months are taken back.
func TestLongBook(t *testing.T) {
	const count = 40000
	var l []book.Entry
	for i := range count {
		l = append(l, put(5, jan+i%12, sums(1, 2, 3), fix(jan, 1, 1, 1)), book.Entry{Id: 5, Period: jan + i%12, Back: 2*i + 1})
	}
	l = append(l, put(5, jan, sums(400, 40, 300)), put(5, apr, sums(500, 40, 300), fix(jan, 60, 0, 0)))
	p, m := read(t, three), hired(t, master.Master{}, 5, record(jan, 500, 40, 3))
	if got, s, e := retro.Fixes(p, m, book.Book{Entries: l}, 5, dec); !slices.Equal(got, []book.Fix{fix(jan, 40, 0, 0)}) || s != sums(40, 0, 0) || e != api.OK {
		t.Errorf("Fixes: %v, %v, %d", got, s, e)
	}
}
