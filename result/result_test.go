package result_test

import (
	"fmt"
	"math"
	"slices"
	"strings"
	"testing"

	"paymaster/api"
	"paymaster/result"
	"paymaster/tree"
	"paymaster/value"
	"paymaster/withhold"
)

const (
	line      = 1 << 45 // the most that a line may be
	protected = 1 << 40 // the most that may be protected
	near      = 1 << 50 // the most of a year, and of what is served
)

// call is what Work is handed.
type call struct {
	p     result.Plan
	in    value.Inputs
	extra result.Sums
	y     withhold.Year
	l     []api.Order
}

func (c call) work() (result.Result, withhold.Year, api.Errno) {
	return result.Work(c.p, c.in, c.extra, c.y, c.l)
}

// read is the program that is read of a text without a fault.
func read(t *testing.T, s string) tree.Program {
	t.Helper()
	p, at, e := tree.Parse(s)
	if e != api.OK {
		t.Fatalf("Parse(%.300q): %d, %d", s, at, e)
	}
	return p
}

// flat is a scheme of a tax of that rate, of all there is, and of funds.
func flat(bps int, funds ...withhold.Fund) withhold.Scheme {
	return withhold.Scheme{Rows: []api.Row{{Above: 0, Rate: bps}}, Funds: funds}
}

func order(priority, claim, balance int) api.Order {
	return api.Order{Creditor: 40, Priority: priority, Claim: claim, Balance: balance}
}

// many is an order that wants all that there may be.
func many(priority int) api.Order { return order(priority, near, near) }

// all are rules of all four kinds, several of each, out of order.
const all = `
post meal = 10.00;
let high = base * share;
earn pay = base;
pretax plan = min(high, 100.00);
let many = hours + days;
earn extra = bonus + rise * 2;
let share = if lead then 12.50% else 5.00%;
post club = if boss then 30.00 else 5.00;
let boss = lead;
pretax more = hours * 0.05;
let rise = if many > 12 then 7.50 else 0.00;
earn back = -1.00;
`

// some are inputs of a usual sort.
func some() value.Inputs {
	return value.Inputs{Base: 100000, Bonus: 2500, Hours: 10, Days: 3, Lead: true}
}

// lines are those, in order.
func lines(l ...result.Line) []result.Line { return l }

// P16.1: rules of all kinds, in any order: a line for each that is no let, in order, and the sums of the three kinds.
func TestLines(t *testing.T) {
	p := read(t, all)
	linesAre(t, p, some(), lines(
		result.Line{"post", "meal", 1000}, result.Line{"earn", "pay", 100000}, result.Line{"pretax", "plan", 10000}, result.Line{"earn", "extra", 4000},
		result.Line{"post", "club", 3000}, result.Line{"pretax", "more", 50}, result.Line{"earn", "back", -100}), result.Sums{Gross: 103900, Pretax: 10050, Post: 4000}, api.OK)
	linesAre(t, p, value.Inputs{Base: 20000, Hours: 2}, lines(
		result.Line{"post", "meal", 1000}, result.Line{"earn", "pay", 20000}, result.Line{"pretax", "plan", 1000}, result.Line{"earn", "extra", 0},
		result.Line{"post", "club", 500}, result.Line{"pretax", "more", 10}, result.Line{"earn", "back", -100}), result.Sums{Gross: 19900, Pretax: 1010, Post: 1500}, api.OK)
	for kind, sums := range map[string]result.Sums{"earn": {Gross: 250}, "pretax": {Pretax: 250}, "post": {Post: 250}} {
		p := read(t, kind+" c = 3.00; "+kind+" a = -b; let b = 1.00; "+kind+" d = 0.50;")
		linesAre(t, p, some(), lines(result.Line{kind, "c", 300}, result.Line{kind, "a", -100}, result.Line{kind, "d", 50}), sums, api.OK)
	}
}

// P16.1: no rules, and none but lets, have no lines.
func TestNoLines(t *testing.T) {
	for _, s := range []string{"", "\n # nothing", "let a = base;", "let a = 1; let b = 12.50%; let c = lead; let d = a * bonus;"} {
		linesAre(t, read(t, s), some(), nil, result.Sums{}, api.OK)
		linesAre(t, read(t, s), value.Inputs{}, nil, result.Sums{}, api.OK)
	}
	linesAre(t, tree.Program{Rules: []tree.Rule{}, Exprs: []tree.Expr{}}, some(), nil, result.Sums{}, api.OK)
}

// P16.1: the value of a let is no line's, whatever it is.
func TestLets(t *testing.T) {
	for _, n := range []int{-api.Most, -near, -line - 1, -line, -1, 0, 1, line, line + 1, near, api.Most} {
		in := value.Inputs{Base: n, Hours: n, Bonus: 7}
		for _, let := range []string{"base", "hours", "hours > 3", "if base < 1.00 then 0.00% else 100.00%", "-base", "max(base, -base)"} {
			linesAre(t, read(t, "let a = "+let+"; earn b = bonus; let c = a;"), in, lines(result.Line{"earn", "b", 7}), result.Sums{Gross: 7}, api.OK)
		}
	}
}

// P16.1: a line of 2^45, or -2^45, whatever its kind and place, and of 1 more.
func TestLineBounds(t *testing.T) {
	near := []int{-line, -line + 1, -1, 0, 1, line - 1, line}
	far := []int{-line - 1, line + 1, -line * 2, line * 2, 1 << 46, 1 << 62, -1 << 62, 1<<63 - 1<<45, -api.Most, api.Most}
	for _, kind := range []string{"earn", "pretax", "post"} {
		for _, s := range []string{kind + " a = base;", "let z = 1; earn y = 0.00; " + kind + " a = base; post x = 0.00;", kind + " a = z; let z = base;", kind + " a = base; let y = lead;"} {
			p := read(t, s)
			for _, n := range near {
				in := value.Inputs{Base: n}
				if e := holdLines(t, p, in); e != api.OK {
					t.Errorf("Lines(%q) of %d: %d", s, n, e)
				}
				linesAre(t, read(t, kind+" a = base;"), in, lines(result.Line{kind, "a", n}), map[string]result.Sums{"earn": {Gross: n}, "pretax": {Pretax: n}, "post": {Post: n}}[kind], api.OK)
			}
			for _, n := range far {
				linesAre(t, p, value.Inputs{Base: n}, nil, result.Sums{}, api.ErrOver)
				fails(t, call{p: result.Plan{P: p, S: flat(0)}, in: value.Inputs{Base: n}}, api.ErrOver)
			}
		}
	}
	p := read(t, "earn a = base; earn b = base; earn c = base; pretax d = -base; pretax e = -base; post f = base; post g = base; post h = base; post i = base;")
	if _, s, e := result.Lines(p, value.Inputs{Base: line}); s != (result.Sums{Gross: 3 * line, Pretax: -2 * line, Post: 4 * line}) || e != api.OK {
		t.Errorf("sums above a line's bound: %v, %d", s, e)
	}
}

// P16.1: sixty lines, each as far as a line may be.
func TestSixtyLines(t *testing.T) {
	for _, kind := range []string{"earn", "pretax", "post"} {
		for _, n := range []int{line, -line} {
			var s strings.Builder
			for i := range 60 {
				fmt.Fprintf(&s, "%s a%d = base;", kind, i)
			}
			l, sums, e := result.Lines(read(t, s.String()), value.Inputs{Base: n})
			if len(l) != 60 || sums.Gross+sums.Pretax+sums.Post != 60*n || e != api.OK {
				t.Errorf("60 of %s: %d, %v, %d", kind, len(l), sums, e)
			}
			if e := holdLines(t, read(t, s.String()), value.Inputs{Base: n}); e != api.OK {
				t.Errorf("60 of %s: %d", kind, e)
			}
		}
	}
}

// wrongPrograms are such as layer 11 does not take, or layer 12 finds too much, with the error of each.
func wrongPrograms(t *testing.T) map[api.Errno][]tree.Program {
	odd := read(t, "earn a = 1.00;")
	odd.Exprs[0].Value = -1
	kind := read(t, "earn a = 1.00;")
	kind.Rules[0].Kind = "bonus"
	root := read(t, "earn a = 1.00;")
	root.Rules[0].Root = 1
	long := read(t, "earn a = 1.00;")
	long.Rules = slices.Repeat(long.Rules, 61)
	return map[api.Errno][]tree.Program{
		api.ErrArg:   {odd, kind, root, long, {Rules: []tree.Rule{{}}}, {Exprs: []tree.Expr{{Op: "whole"}}}},
		api.ErrThere: {read(t, "earn base = 1.00;"), read(t, "earn a = 1.00; let a = 1;"), read(t, "post lead = nobody;")},
		api.ErrCycle: {read(t, "earn a = a;"), read(t, "let a = b; let b = c; let c = a; earn d = nobody;")},
		api.ErrNone:  {read(t, "earn a = nobody;"), read(t, "earn a = base; let b = nobody;")},
		api.ErrType:  {read(t, "earn a = 1;"), read(t, "pretax a = lead;"), read(t, "post a = 1.00%;"), read(t, "earn b = base; let a = 1 + 1.00;"), read(t, "earn a = hours;")},
		api.ErrOver:  {read(t, "let a = 90000000000000000.00 * 2;"), read(t, "earn a = base; let b = (base + 1.00) * 999999999 * 999999999;"), read(t, "earn a = 351843720888.33;"), read(t, "post a = -351843720888.33;")},
	}
}

// P16.1, P16.2: programs that are wrong, one way and another, and inputs that are no amounts.
func TestWrongPrograms(t *testing.T) {
	for e, l := range wrongPrograms(t) {
		for _, p := range l {
			linesAre(t, p, some(), nil, result.Sums{}, e)
			fails(t, call{p: result.Plan{P: p, S: flat(1000), Protected: 5}, in: some(), l: []api.Order{many(1)}}, e)
		}
	}
	for _, in := range []value.Inputs{{Base: math.MinInt}, {Bonus: math.MinInt}, {Hours: math.MinInt}, {Days: math.MinInt}} {
		for _, s := range []string{"", all} {
			linesAre(t, read(t, s), in, nil, result.Sums{}, api.ErrOver)
			fails(t, call{p: result.Plan{P: read(t, s), S: flat(0)}, in: in}, api.ErrOver)
		}
	}
}

// P16.2: the chapter's example: 10% of 100.00.
func TestExample(t *testing.T) {
	worksTo(t, call{p: result.Plan{P: read(t, "earn a = base;"), S: flat(1000)}, in: value.Inputs{Base: 10000}}, result.Result{
		Lines: lines(result.Line{"earn", "a", 10000}), Raw: result.Sums{Gross: 10000}, Taxable: 10000, Tax: 1000, Net: 9000,
	}, withhold.Year{Taxable: 10000, Base: 10000, Tax: 1000}, api.OK)
}

// P16.2: all that there is, at once: extras, two funds, what is taken after tax, and creditors who are paid all, some and nothing.
func TestWork(t *testing.T) {
	c := call{
		p:     result.Plan{P: read(t, all), S: flat(2000, withhold.Fund{Rate: 500, Employer: 700, Ceiling: 90000}, withhold.Fund{Rate: 100, Employer: 0, Ceiling: api.Most}), Protected: 60000},
		in:    some(),
		extra: result.Sums{Gross: 1100, Pretax: -50, Post: 500},
		l:     []api.Order{order(3, 10, 10), order(2, 9000, 800), order(2, 1600, 9000), order(1, 4450, 9000)},
	}
	l, _, _ := exactLines(c.p.P, c.in)
	r := result.Result{
		Lines: l, Raw: result.Sums{Gross: 103900, Pretax: 10050, Post: 4000}, Extra: c.extra, Taxable: 95000, Tax: 19000, Paid: []int{4500, 1050}, Owed: []int{6300, 0},
		Taken: 4500, Net: 60000, Garnished: []int{0, 500, 1000, 4450},
	}
	y := withhold.Year{Taxable: 95000, Base: 105000, Tax: 19000, Paid: []int{4500, 1050}, Owed: []int{6300, 0}}
	worksTo(t, c, r, y, api.OK)
	c.p.Protected, r.Net, r.Garnished = 59099, 59099, []int{1, 800, 1600, 4450}
	worksTo(t, c, r, y, api.OK)
	c.p.Protected, r.Net, r.Garnished = 100, 59090, []int{10, 800, 1600, 4450}
	worksTo(t, c, r, y, api.OK)
	c.p.Protected, r.Net, r.Garnished = 65951, 65950, []int{0, 0, 0, 0}
	worksTo(t, c, r, y, api.OK)
	c.l, r.Garnished = nil, nil
	worksTo(t, c, r, y, api.OK)
}

// P16.2: no rules: what comes of an extra alone, and of nothing.
func TestNoRules(t *testing.T) {
	c := call{p: result.Plan{S: flat(1000, withhold.Fund{Rate: 100, Employer: 200, Ceiling: 5000})}, in: some()}
	worksTo(t, c, result.Result{Paid: []int{0}, Owed: []int{0}}, withhold.Year{Paid: []int{0}, Owed: []int{0}}, api.OK)
	c.extra = result.Sums{Gross: 8000, Pretax: 1000, Post: 20}
	worksTo(t, c, result.Result{Extra: c.extra, Taxable: 7000, Tax: 700, Taken: 20, Net: 6230, Paid: []int{50}, Owed: []int{100}},
		withhold.Year{Taxable: 7000, Base: 8000, Tax: 700, Paid: []int{50}, Owed: []int{100}}, api.OK)
	c.extra = result.Sums{Gross: -8000, Pretax: -9000, Post: -20}
	worksTo(t, c, result.Result{Extra: c.extra, Taxable: 1000, Tax: 100, Taken: -20, Net: 920, Paid: []int{0}, Owed: []int{0}},
		withhold.Year{Taxable: 1000, Base: -8000, Tax: 100, Paid: []int{0}, Owed: []int{0}}, api.OK)
}

// P16.2: months one behind the other: what came of each is told, not what is due of the year.
func TestMonths(t *testing.T) {
	p := result.Plan{P: read(t, "earn pay = base; pretax plan = bonus;"), S: withhold.Scheme{
		Rows: []api.Row{{Above: 0, Rate: 0}, {Above: 100000, Rate: 2000}}, Funds: []withhold.Fund{{Rate: 1000, Employer: 2000, Ceiling: 150000}},
	}}
	var y withhold.Year
	for _, m := range []struct{ base, bonus, gross, tax, paid, owed, net, short int }{
		{90000, 10000, 0, 0, 9000, 18000, 71000, 0},
		{90000, 10000, 0, 12000, 6000, 12000, 62000, 0},
		{90000, 0, 0, 18000, 0, 0, 72000, 0},
		{90000, 0, -120000, -6000, 0, 0, 0, 24000},
		{0, 0, -100000, -20000, -1000, -2000, 0, 79000},
		{0, -5000, 0, 1000, 0, 0, 4000, 0},
		{0, 0, -200000, -5000, -14000, -28000, 0, 181000},
		{0, 0, 0, 0, 0, 0, 0, 0},
	} {
		c := call{p: p, in: value.Inputs{Base: m.base, Bonus: m.bonus}, extra: result.Sums{Gross: m.gross}, y: y}
		r, z, e := c.work()
		if r.Tax != m.tax || r.Paid[0] != m.paid || r.Owed[0] != m.owed || r.Net != m.net || r.Short != m.short || r.Taxable != m.base+m.gross-m.bonus || e != api.OK {
			t.Errorf("%+v: %+v, %d", m, r, e)
		}
		hold(t, c)
		y = z
	}
	if !sameYear(y, withhold.Year{Taxable: -75000, Base: -60000, Paid: []int{0}, Owed: []int{0}}) {
		t.Errorf("the year behind: %v", y)
	}
}

// taking is a call by which as much is left, ahead of Post, as there is an extra.
func taking(t *testing.T, left, post, protected int, l ...api.Order) call {
	return call{p: result.Plan{P: read(t, "post a = base; post b = -bonus;"), S: flat(0), Protected: protected}, in: value.Inputs{Base: post + 9, Bonus: 7}, extra: result.Sums{Gross: left, Post: -2}, l: l}
}

// P16.2: Post, above and below 0, at, above and below what is left, which is above and below 0.
func TestPost(t *testing.T) {
	for _, c := range []struct{ left, post, taken, held, net, short int }{
		{100, 0, 0, 0, 100, 0}, {100, 1, 1, 0, 99, 0}, {100, 99, 99, 0, 1, 0}, {100, 100, 100, 0, 0, 0}, {100, 101, 100, 1, 0, 0}, {100, 5000, 100, 4900, 0, 0},
		{100, -1, -1, 0, 101, 0}, {100, -5000, -5000, 0, 5100, 0},
		{0, 0, 0, 0, 0, 0}, {0, 1, 0, 1, 0, 0}, {0, 500, 0, 500, 0, 0}, {0, -1, -1, 0, 1, 0}, {0, -500, -500, 0, 500, 0},
		{-1, 0, 0, 0, 0, 1}, {-1, 1, 0, 1, 0, 1}, {-1, -1, -1, 0, 0, 0}, {-1, -2, -2, 0, 1, 0}, {-100, 70, 0, 70, 0, 100}, {-100, -70, -70, 0, 0, 30}, {-100, -170, -170, 0, 70, 0},
		{line, line - 9, line - 9, 0, 9, 0}, {-line, line - 9, 0, line - 9, 0, line}, {-line, 9 - line, 9 - line, 0, 0, 9}, {line, 9 - line, 9 - line, 0, 2*line - 9, 0},
	} {
		for _, k := range []call{taking(t, c.left, c.post, 0), taking(t, c.left, c.post, 40, order(1, 0, 9))} {
			r, _, e := k.work()
			if e != api.OK || r.Taken != c.taken || r.Held != c.held || r.Net != c.net || r.Short != c.short || r.Taxable != c.left || r.Raw.Post != c.post+2 {
				t.Errorf("%+v: %+v, %d", c, r, e)
			}
			hold(t, k)
		}
	}
}

// P16.2, P16.3: creditors are paid of what is left behind Post, above what is protected.
func TestCreditors(t *testing.T) {
	for _, c := range []struct {
		left, post, protected, net, short int
		l                                 []api.Order
		garnished                         []int
	}{
		{100, 20, 30, 30, 0, []api.Order{many(1)}, []int{50}},
		{100, 20, 30, 31, 0, []api.Order{order(1, 49, 900)}, []int{49}},
		{100, 20, 30, 31, 0, []api.Order{order(1, 900, 49)}, []int{49}},
		{100, 20, 80, 80, 0, []api.Order{many(1)}, []int{0}},
		{100, 20, 79, 79, 0, []api.Order{many(1)}, []int{1}},
		{100, 20, 81, 80, 0, []api.Order{many(1)}, []int{0}},
		{100, 20, protected, 80, 0, []api.Order{many(1)}, []int{0}},
		{100, 20, 0, 0, 0, []api.Order{many(1)}, []int{80}},
		{100, 200, 0, 0, 0, []api.Order{many(1)}, []int{0}},
		{100, 200, 30, 0, 0, []api.Order{many(1)}, []int{0}},
		{100, -20, 30, 30, 0, []api.Order{many(1)}, []int{90}},
		{-100, -120, 5, 5, 0, []api.Order{many(1)}, []int{15}},
		{-100, 20, 0, 0, 100, []api.Order{many(1)}, []int{0}},
		{-100, -20, 0, 0, 80, []api.Order{many(1), many(2)}, []int{0, 0}},
		{100, 0, 40, 40, 0, []api.Order{order(1, 30, 900), order(2, 40, 900), order(2, 20, 900)}, []int{30, 20, 10}},
		{100, 0, 40, 40, 0, []api.Order{order(3, 30, 900), order(2, 40, 900), order(1, 50, 900)}, []int{0, 10, 50}},
		{100, 0, 0, 10, 0, []api.Order{order(1, 30, 900), order(2, 40, 900), order(2, 20, 900)}, []int{30, 40, 20}},
		{100, 0, 0, 100, 0, []api.Order{order(1, 0, 900), order(2, 40, 0)}, []int{0, 0}},
		{protected + 5, 0, protected, protected, 0, []api.Order{many(1)}, []int{5}},
	} {
		k := taking(t, c.left, c.post, c.protected, c.l...)
		r, _, e := k.work()
		if e != api.OK || !slices.Equal(r.Garnished, c.garnished) || r.Net != c.net || r.Short != c.short {
			t.Errorf("%+v: %+v, %d", c, r, e)
		}
		hold(t, k)
	}
}

// P16.2: tax and funds come off ahead of Post and of creditors; what the employer owes does not come off.
func TestWithheldIsOff(t *testing.T) {
	c := taking(t, 1000, 50, 100, many(1))
	c.p.S = flat(1000, withhold.Fund{Rate: 300, Employer: 10000, Ceiling: api.Most}, withhold.Fund{Rate: 200, Employer: 5000, Ceiling: 100})
	r, _, e := c.work()
	if e != api.OK || r.Tax != 100 || !slices.Equal(r.Paid, []int{30, 2}) || !slices.Equal(r.Owed, []int{1000, 50}) || r.Taken != 50 || !slices.Equal(r.Garnished, []int{718}) || r.Net != 100 {
		t.Errorf("%+v, %d", r, e)
	}
	c.y = withhold.Year{Tax: 1000, Paid: []int{1000, 1}, Owed: []int{7, 7}}
	r, _, e = c.work()
	if e != api.OK || r.Tax != -900 || !slices.Equal(r.Paid, []int{-970, 1}) || !slices.Equal(r.Owed, []int{993, 43}) || !slices.Equal(r.Garnished, []int{1000 + 900 + 970 - 1 - 50 - 100}) || r.Net != 100 {
		t.Errorf("%+v, %d", r, e)
	}
	hold(t, c)
}

// P16.2: an extra of 2^45 and -2^45, and 1 farther.
func TestExtraBounds(t *testing.T) {
	with := func(i, n int) result.Sums {
		return []result.Sums{{Gross: n}, {Pretax: n}, {Post: n}}[i]
	}
	for _, s := range []string{"", all} {
		c := call{p: result.Plan{P: read(t, s), S: flat(1000), Protected: 5}, in: some(), l: []api.Order{many(1)}}
		for i := range 3 {
			for _, n := range []int{-line, -line + 1, -1, 1, line - 1, line} {
				c.extra = with(i, n)
				if r, _, e := hold(t, c); e != api.OK || r.Extra != c.extra {
					t.Errorf("%v: %+v, %d", c.extra, r, e)
				}
			}
			for _, n := range []int{-line - 1, line + 1, near, -near, 1 << 62, api.Most, -api.Most, math.MinInt} {
				c.extra = with(i, n)
				fails(t, c, api.ErrOver)
			}
		}
	}
}

// P16.2: Protected from 0 to 2^40.
func TestProtectedBounds(t *testing.T) {
	for _, n := range []int{0, 1, 40, protected - 1, protected} {
		if r, _, e := hold(t, taking(t, line, 20, n, many(1))); e != api.OK || r.Net != n {
			t.Errorf("%d protected: %+v, %d", n, r, e)
		}
	}
	for _, n := range []int{-1, -40, -protected, math.MinInt, protected + 1, near, api.Most} {
		fails(t, taking(t, line, 20, n, many(1)), api.ErrArg)
		fails(t, taking(t, line, 20, n), api.ErrArg)
	}
}

// wrongSchemes are such as are not right.
func wrongSchemes() []withhold.Scheme {
	return []withhold.Scheme{
		{}, {Funds: []withhold.Fund{{}}}, flat(-1), flat(10001), {Rows: []api.Row{{Above: 1}}}, {Rows: make([]api.Row, 13)}, {Rows: make([]api.Row, 2)},
		flat(0, make([]withhold.Fund, 7)...), flat(0, withhold.Fund{Rate: -1}), flat(0, withhold.Fund{Employer: 10001}), flat(0, withhold.Fund{}, withhold.Fund{Ceiling: -1}),
	}
}

// P16.2: the error that is named first: of the plan, of the lines, of the extra, of the year, of the creditors.
func TestWhichErrorFirst(t *testing.T) {
	far, long := result.Sums{Post: line + 1}, slices.Repeat([]api.Order{many(1)}, 9)
	right := result.Plan{P: read(t, all), S: flat(0, withhold.Fund{})}
	for _, s := range wrongSchemes() {
		fails(t, call{p: result.Plan{P: right.P, S: s}, in: some()}, api.ErrArg)
		fails(t, call{p: result.Plan{P: read(t, "earn a = nobody;"), S: s}, extra: far, y: withhold.Year{Base: near + 1}, l: long}, api.ErrArg)
	}
	for e, l := range wrongPrograms(t) {
		for _, p := range l {
			wrong := call{p: result.Plan{P: p, S: right.S}, in: some(), extra: far, y: withhold.Year{Base: near + 1, Paid: []int{1, 2}}, l: long}
			fails(t, wrong, e)
			wrong.p.Protected = -1
			fails(t, wrong, api.ErrArg)
		}
	}
	c := call{p: right, in: some(), extra: far, y: withhold.Year{Paid: []int{1, 2}}, l: long}
	fails(t, c, api.ErrOver)
	c.extra.Post = line
	fails(t, c, api.ErrArg)
	c.y.Taxable = near + 1
	fails(t, c, api.ErrOver)
	c.y = withhold.Year{}
	fails(t, c, api.ErrLong)
	c.l = []api.Order{many(1), order(1, -1, 5), order(1, near+1, 5)}
	fails(t, c, api.ErrArg)
	c.l = []api.Order{many(1), order(1, near+1, 5)}
	fails(t, c, api.ErrOver)
	c.l = []api.Order{many(1)}
	if _, _, e := hold(t, c); e != api.OK {
		t.Errorf("nothing is wrong: %d", e)
	}
}

// P16.2: layer 14's errors: what is taxable, or the base, or either with the year's, is too far; or the year's lists do not fit.
func TestYearErrors(t *testing.T) {
	var s strings.Builder
	for i := range 32 {
		fmt.Fprintf(&s, "earn a%d = base; ", i)
	}
	p := result.Plan{P: read(t, s.String()+"earn b = bonus; pretax c = bonus;"), S: flat(0, withhold.Fund{}, withhold.Fund{})}
	for _, sign := range []int{1, -1} {
		in := value.Inputs{Base: sign * line}
		c := call{p: p, in: in}
		if r, y, e := hold(t, c); e != api.OK || r.Taxable != sign*near || y.Base != sign*near {
			t.Errorf("2^50: %+v, %d", r, e)
		}
		c.in.Bonus = sign
		fails(t, c, api.ErrOver) // the base is too far, though what is taxable is not
		c = call{p: p, in: in, extra: result.Sums{Pretax: -sign}}
		fails(t, c, api.ErrOver) // the other way round
		for _, y := range []withhold.Year{{Taxable: sign}, {Base: sign}, {Taxable: sign * near}, {Taxable: -sign * (near + 1)}, {Base: math.MinInt}, {Taxable: api.Most}} {
			fails(t, call{p: p, in: in, y: y}, api.ErrOver)
		}
		if _, y, e := hold(t, call{p: p, in: in, y: withhold.Year{Taxable: -sign * near, Base: -sign}}); e != api.OK || y.Taxable != 0 || y.Base != sign*(near-1) {
			t.Errorf("taken back: %v, %d", y, e)
		}
	}
	for _, l := range [][]int{{0}, {0, 0, 0}, make([]int, 7)} {
		fails(t, call{p: p, y: withhold.Year{Paid: l}}, api.ErrArg)
		fails(t, call{p: p, y: withhold.Year{Owed: l}}, api.ErrArg)
	}
}

// P16.2: layer 15's errors: orders that are wrong, or too many, or what is left too much.
func TestCreditorErrors(t *testing.T) {
	for n := range 12 {
		e := api.OK
		if n > 8 {
			e = api.ErrLong
		}
		if _, _, f := hold(t, taking(t, 100, 5, 40, slices.Repeat([]api.Order{order(1, 3, 3)}, n)...)); f != e {
			t.Errorf("%d orders: %d", n, f)
		}
	}
	for o, e := range map[api.Order]api.Errno{
		order(1, -1, 0): api.ErrArg, order(1, 0, -1): api.ErrArg, order(1, math.MinInt, 5): api.ErrArg, order(1, 0, near+1): api.ErrOver, order(1, api.Most, 0): api.ErrOver, order(1, near, near): api.OK,
	} {
		for _, left := range []int{-100, 0, 5, 100} {
			if _, _, f := hold(t, taking(t, left, 5, 40, order(1, 3, 3), o)); f != e {
				t.Errorf("%v: %d, not %d", o, f, e)
			}
		}
	}
}

// P16.2: what is left, behind Post, of 2^50 and 1 more; and a sum of what a year tells that would wrap round to what is near.
func TestLeftTooFar(t *testing.T) {
	p := result.Plan{P: read(t, "post a = base;"), S: flat(0, make([]withhold.Fund, 6)...)}
	of := func(tax int, paid ...int) withhold.Year {
		return withhold.Year{Tax: tax, Paid: append(paid, make([]int, 6-len(paid))...)}
	}
	for _, c := range []struct {
		y    withhold.Year
		post int
		net  int
		e    api.Errno
	}{
		{of(near), 0, near, api.OK}, {of(near + 1), 0, 0, api.ErrOver}, {of(near + 1), 1, near, api.OK}, {of(near), -1, 0, api.ErrOver}, {of(near + line), line, near, api.OK}, {of(near+line, 1), line, 0, api.ErrOver},
		{of(-near), 0, -near, api.OK}, {of(-near - 1), 0, 0, api.ErrOver}, {of(-near - 1), -1, -near, api.OK}, {of(-near - 1), 1, 0, api.ErrOver}, {of(-near, -1), 0, 0, api.ErrOver},
		{of(api.Most, -api.Most, 70), 0, 70, api.OK}, {of(-api.Most, 1<<62, 1<<62), 0, 1, api.OK}, {of(1<<62, 1<<62, -1<<62, -1<<62, 5), 3, 2, api.OK}, {of(1<<62, 1<<62, 1<<62, -1<<62, -1<<62, -1<<62), 0, 0, api.OK},
		{of(1<<62, 1<<62, 1<<62, 1<<62), 0, 0, api.ErrOver}, {of(-1<<62, -1<<62, -1<<62, -1<<62), 0, 0, api.ErrOver}, {of(api.Most, api.Most, 2), 0, 0, api.ErrOver}, {of(-api.Most, -api.Most, -2), 1, 0, api.ErrOver},
		{of(1<<61, 1<<61, 1<<61, 1<<61, 1<<61, 1<<61, 1<<61), 0, 0, api.ErrOver}, {of(1 << 60), 0, 0, api.ErrOver}, {of(1<<60 + 1<<9), 0, 0, api.ErrOver}, {of(-1 << 60), 0, 0, api.ErrOver}, {of(-1<<60 - 1<<9), 0, 0, api.ErrOver},
		{of(api.Most), -line, 0, api.ErrOver}, {of(api.Most), line, 0, api.ErrOver}, {of(-api.Most), -line, 0, api.ErrOver}, {of(-api.Most), line, 0, api.ErrOver},
	} {
		k := call{p: p, in: value.Inputs{Base: c.post}, y: c.y}
		r, _, e := hold(t, k)
		if e != c.e || r.Net-r.Short != c.net {
			t.Errorf("%v, %d: %+v, %d", c.y, c.post, r, e)
		}
		k.l = slices.Repeat([]api.Order{order(1, 1, 1)}, 9)
		fails(t, k, api.ErrLong)
		k.l = []api.Order{order(1, -1, 1)}
		fails(t, k, api.ErrArg)
	}
}

// R1, R4: what is handed in stays as it was, up to what lies behind the lists, and is not kept; no two lists that are answered share memory.
func TestNothingKept(t *testing.T) {
	funds, paid, owed := make([]withhold.Fund, 4), []int{1, 2, 3, 71}, []int{4, 5, 6, 72}
	c := call{p: result.Plan{P: read(t, all), S: flat(2000, funds[:3]...), Protected: 7}, in: some(), y: withhold.Year{Paid: paid[:3], Owed: owed[:3]}, l: []api.Order{order(1, 5, 5), order(2, 6, 6), many(3)}[:2]}
	c.p.P.Rules = append(c.p.P.Rules, tree.Rule{Name: "behind"})
	c.p.P.Rules = c.p.P.Rules[:len(c.p.P.Rules)-1]
	hold(t, c)
	if behind := c.p.P.Rules[:len(c.p.P.Rules)+1]; behind[len(behind)-1].Name != "behind" || funds[3] != (withhold.Fund{}) || paid[3] != 71 || owed[3] != 72 || c.l[:3][2] != many(3) {
		t.Errorf("what lies behind changed: %v, %v, %v, %v, %v", behind, funds, paid, owed, c.l[:3])
	}
	before := fmt.Sprint(c)
	r, y, _ := c.work()
	want := fmt.Sprint(r, y)
	lists := [][]int{r.Paid, r.Owed, r.Garnished, y.Paid, y.Owed}
	for i, l := range lists {
		for j := range l {
			l[j] = -i - 1
		}
	}
	for i, l := range lists {
		if slices.Min(l) != -i-1 || slices.Max(l) != -i-1 {
			t.Errorf("list %d is shared: %v", i, l)
		}
	}
	clear(r.Lines)
	if fmt.Sprint(c) != before {
		t.Errorf("what was handed in changed: %v", c)
	}
	l, _, _ := result.Lines(c.p.P, c.in)
	clear(l[:cap(l)])
	if r, y, _ := c.work(); fmt.Sprint(r, y) != want {
		t.Errorf("told once more: %v, %v, not %s", r, y, want)
	}
}

// P1: no call panics, and each ends, whatever it is handed.
func TestOddArguments(t *testing.T) {
	odd := []int{math.MinInt, -api.Most, -near - 1, -line, -1, 0, 1, 10000, line + 1, near, api.Most}
	var plans []result.Plan
	for _, s := range append(wrongSchemes(), flat(1000), flat(10000, make([]withhold.Fund, 6)...)) {
		plans = append(plans, result.Plan{S: s}, result.Plan{P: read(t, all), S: s})
		for _, l := range wrongPrograms(t) {
			for _, p := range l {
				plans = append(plans, result.Plan{P: p, S: s})
			}
		}
	}
	for _, p := range plans {
		for i, n := range odd {
			m := odd[len(odd)-1-i]
			p.Protected = max(0, n)
			hold(t, call{p, value.Inputs{Base: n, Hours: m}, result.Sums{Gross: m}, withhold.Year{Tax: n}, nil})
			hold(t, call{p, value.Inputs{Bonus: m, Days: n}, result.Sums{Post: n}, withhold.Year{Tax: m, Paid: slices.Repeat([]int{n}, 6)}, []api.Order{order(n, m, n), order(m, max(0, n), 9)}})
			p.Protected = 0
			hold(t, call{p: p, y: withhold.Year{Tax: n, Paid: slices.Repeat([]int{n}, 6)}, l: []api.Order{many(n)}})
			hold(t, call{p: p, y: withhold.Year{Tax: n, Paid: slices.Repeat([]int{m}, 6)}, l: []api.Order{many(n)}})
		}
	}
}
