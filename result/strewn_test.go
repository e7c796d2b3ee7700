package result_test

import (
	"slices"
	"strconv"
	"strings"
	"testing"

	"paymaster/api"
	"paymaster/result"
	"paymaster/tree"
	"paymaster/value"
	"paymaster/withhold"
)

// Strewn plans, and strewn months of their years: all told as the second telling tells them.

type strewn uint64

func (g *strewn) below(n int) int {
	*g = *g*6364136223846793005 + 1442695040888963407
	return int(*g>>33) % n
}

func (g *strewn) of(l ...string) string { return l[g.below(len(l))] }

// amount is of a size that is strewn, at most 2^bits, now and then below 0.
func (g *strewn) amount(bits int) int {
	n := g.below(1<<30)<<30 + g.below(1<<30)
	n >>= 60 - bits
	if g.below(3) > 0 {
		n >>= g.below(bits + 1)
	}
	if g.below(4) == 0 {
		return -n
	}
	return n
}

// money is an expression of Money, of inputs and of the lets there are.
func (g *strewn) money(deep int, lets []string) string {
	if deep > 2 {
		return g.of(append(lets, "base", "bonus", "10.00", "0.07")...)
	}
	in := func() string { return g.money(deep+1, lets) }
	switch g.below(8) {
	case 0:
		return "(" + in() + " + " + in() + ")"
	case 1:
		return "(" + in() + " - " + in() + ")"
	case 2:
		return g.of("min(", "max(") + in() + "," + in() + ")"
	case 3:
		return "(" + in() + " * " + g.of("5.00%", "33.33%", "2", "100.00%", "0") + ")"
	case 4:
		return "(if " + g.of("lead", "hours > days", "base < bonus") + " then " + in() + " else " + in() + ")"
	case 5:
		return "(-" + in() + ")"
	}
	return g.money(9, lets)
}

// rules are that many, of all four kinds, in any order.
func (g *strewn) rules(count int) string {
	var lets, lines []string
	for i := range count {
		name, kind := "r"+strconv.Itoa(i), g.of("earn", "earn", "pretax", "post", "let")
		x := g.money(0, lets)
		switch {
		case kind == "let" && g.below(3) == 0:
			x = g.of("1 + days", "lead", "7.50%", "999999999 * 999999999", "base * 3 > bonus")
		case kind == "let":
			lets = append(lets, name)
		}
		lines = slices.Insert(lines, g.below(i+1), kind+" "+name+" = "+x+";\n")
	}
	return strings.Join(lines, "")
}

func (g *strewn) scheme() withhold.Scheme {
	s := flat(g.below(5001))
	for range g.below(4) {
		s.Rows = append(s.Rows, api.Row{Above: s.Rows[len(s.Rows)-1].Above + 1 + max(0, g.amount(30)), Rate: g.below(10001)})
	}
	for range g.below(7) {
		s.Funds = append(s.Funds, withhold.Fund{Rate: g.below(2001), Employer: g.below(3001), Ceiling: max(0, g.amount(30))})
	}
	return s
}

func (g *strewn) orders() []api.Order {
	var l []api.Order
	for range g.below(5) {
		l = append(l, order(g.below(3), max(0, g.amount(25)), max(0, g.amount(30))))
	}
	return l
}

func (g *strewn) inputs(bits int) value.Inputs {
	return value.Inputs{Base: g.amount(bits), Bonus: g.amount(bits), Hours: g.below(200), Days: g.below(31), Lead: g.below(2) == 0}
}

// extra is mostly nothing, else sums above and below 0.
func (g *strewn) extra(bits int) result.Sums {
	if g.below(3) > 0 {
		return result.Sums{}
	}
	return result.Sums{Gross: g.amount(bits), Pretax: g.amount(bits), Post: g.amount(bits)}
}

// months is a year of a plan; it counts what came of it.
func (g *strewn) months(t *testing.T, p result.Plan, came map[string]int) {
	t.Helper()
	c := call{p: p}
	bits := []int{25, 25, 40, 45, 46}[g.below(5)]
	for range 12 {
		c.in, c.extra, c.l = g.inputs(bits), g.extra(bits), g.orders()
		if holdLines(t, p.P, c.in) != api.OK {
			came["no lines"]++
		}
		r, y, e := hold(t, c)
		if e != api.OK {
			came["error "+strconv.Itoa(int(e))]++
			continue
		}
		c.y = y
		for what, is := range map[string]bool{
			"held": r.Held > 0, "short": r.Short > 0, "given back": r.Taken < 0, "paid back": r.Tax < 0,
			"garnished": len(r.Garnished) > 0 && slices.Max(r.Garnished) > 0, "as protected": r.Net == p.Protected,
		} {
			if is {
				came[what]++
			}
		}
	}
}

// P16.1 to P16.3: strewn years of strewn plans.
func TestStrewnYears(t *testing.T) {
	g, came := strewn(16), map[string]int{}
	for i := range 600 {
		p := result.Plan{P: read(t, g.rules(g.below([]int{4, 12, 30}[i%3]))), S: g.scheme(), Protected: max(0, g.amount(20))}
		g.months(t, p, came)
	}
	for _, what := range []string{"error 3", "no lines", "held", "short", "given back", "paid back", "garnished", "as protected"} {
		if came[what] < 200 {
			t.Errorf("%s: %d times of %v", what, came[what], came)
		}
	}
}

// P16.1, P16.2: strewn plans of which something is wrong, or at an edge.
func TestStrewnFaults(t *testing.T) {
	g := strewn(161)
	odd := []int{-1 << 63, -near - 1, -line - 1, -line, -1, 0, 1, protected, protected + 1, line, line + 1, near, near + 1, api.Most}
	some := func(n int) int {
		if g.below(12) == 0 {
			return odd[g.below(len(odd))]
		}
		return n
	}
	programs := []tree.Program{read(t, "earn a = nobody;"), read(t, "earn a = 1;"), read(t, "earn a = a;"), {Rules: make([]tree.Rule, 1)}}
	var errors [api.ErrShut + 1]int
	for range 12000 {
		c := call{p: result.Plan{P: read(t, g.rules(g.below(4))), S: g.scheme(), Protected: some(g.below(1 << 20))}, in: g.inputs(25), l: g.orders()}
		c.extra = result.Sums{Gross: some(0), Pretax: some(0), Post: some(0)}
		c.in.Base = some(c.in.Base)
		c.y = withhold.Year{Taxable: some(0), Base: some(0), Tax: some(0), Paid: make([]int, len(c.p.S.Funds)), Owed: make([]int, max(0, some(0)&7))}
		for i := range c.y.Paid {
			c.y.Paid[i] = some(0)
		}
		for i := range c.l {
			c.l[i].Claim, c.l[i].Balance = some(c.l[i].Claim), some(c.l[i].Balance)
		}
		switch g.below(20) {
		case 0:
			c.p.P = programs[g.below(len(programs))]
		case 1:
			c.p.S.Rows[0].Above = some(0)
		case 2:
			c.l = slices.Repeat([]api.Order{order(1, 1, 1)}, 7+g.below(4))
		}
		_, _, e := hold(t, c)
		errors[e]++
	}
	for _, e := range []api.Errno{api.OK, api.ErrArg, api.ErrOver, api.ErrNone, api.ErrType, api.ErrCycle, api.ErrLong} {
		if errors[e] < 50 {
			t.Errorf("%d times %d", errors[e], e)
		}
	}
}
