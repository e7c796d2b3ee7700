package value_test

import (
	"slices"
	"strconv"
	"strings"
	"testing"

	"paymaster/api"
	"paymaster/tree"
	"paymaster/value"
)

func whole(n int) tree.Expr                 { return tree.Expr{Op: "whole", Value: n} }
func amount(n int) tree.Expr                { return tree.Expr{Op: "amount", Value: n} }
func percent(n int) tree.Expr               { return tree.Expr{Op: "rate", Value: n} }
func name(s string) tree.Expr               { return tree.Expr{Op: "name", Name: s} }
func neg(a int) tree.Expr                   { return tree.Expr{Op: "neg", A: a} }
func two(op string, a int, b int) tree.Expr { return tree.Expr{Op: op, A: a, B: b} }
func choice(a int, b int, c int) tree.Expr  { return tree.Expr{Op: "if", A: a, B: b, C: c} }

func program(exprs ...tree.Expr) tree.Program {
	return tree.Program{Exprs: exprs}
}

// least is the one number that is no amount.
const least = -api.Most - 1

// edges are amounts at which something turns.
func edges() []int {
	return []int{0, 1, -1, 2, -2, 3, -3, 5, -5, 4999, 5000, 5001, -5000, 9999, 10000, 10001, 15000, -15000, 1 << 31, -1 << 31, 1 << 32, 3037000499, 3037000500, -3037000500,
		1 << 61, 1<<62 - 1, 1 << 62, 1<<62 + 1, -1 << 62, api.Most / 2, -api.Most / 2, api.Most - 1, api.Most, -api.Most + 1, -api.Most}
}

// worthsOf are those of the inputs.
func worthsOf(in value.Inputs) []value.Worth {
	lead := 0
	if in.Lead {
		lead = 1
	}
	return []value.Worth{{Name: "base", Kind: 1, Value: in.Base}, {Name: "bonus", Kind: 1, Value: in.Bonus}, {Name: "hours", Kind: 3, Value: in.Hours}, {Name: "days", Kind: 3, Value: in.Days}, {Name: "lead", Kind: 4, Value: lead}}
}

// some are inputs of a usual sort.
func some() value.Inputs {
	return value.Inputs{Base: 1004, Bonus: 500, Hours: 10, Days: 3, Lead: true}
}

// read is the program that is read of a text without a fault.
func read(t *testing.T, s string) tree.Program {
	t.Helper()
	p, at, e := tree.Parse(s)
	if e != api.OK {
		t.Fatalf("Parse(%.300q): %d, %d", s, at, e)
	}
	return p
}

// is: the expression s is worth n, alone, and as a rule.
func is(t *testing.T, s string, in value.Inputs, n int) {
	t.Helper()
	p := read(t, "let x = "+s+";")
	exprIs(t, p, p.Rules[0].Root, worthsOf(in), n, api.OK)
	holdExpr(t, p, p.Rules[0].Root, worthsOf(in))
	allIs(t, p, in, []int{n}, 0, api.OK)
	holdAll(t, p, in)
}

// isTooMuch: the expression s is, alone, and as the last one of three rules.
func isTooMuch(t *testing.T, s string, in value.Inputs) {
	t.Helper()
	p := read(t, "let w = 1.00; let v = lead; let x = "+s+";")
	exprIs(t, p, p.Rules[2].Root, worthsOf(in), 0, api.ErrOver)
	holdExpr(t, p, p.Rules[2].Root, worthsOf(in))
	allIs(t, p, in, nil, 2, api.ErrOver)
	holdAll(t, p, in)
}

// isOrNot: the expression s is worth n, if ok, else too much.
func isOrNot(t *testing.T, s string, in value.Inputs, n int, ok bool) {
	t.Helper()
	if ok {
		is(t, s, in, n)
	} else {
		isTooMuch(t, s, in)
	}
}

// P12.1, P12.2: each Op, with values of each kind that it takes, by hand.
func TestValues(t *testing.T) {
	for s, n := range map[string]int{
		"7": 7, "0": 0, "999999999": 999999999, "1.50": 150, "0.00": 0, "12.50%": 1250, "0.00%": 0, "100.00%": 10000,
		"base": 1004, "bonus": 500, "hours": 10, "days": 3, "lead": 1,
		"-7": -7, "--7": 7, "---7": -7, "-0": 0, "-1.50": -150, "-base": -1004, "-hours": -10, "-(-base)": 1004,
		"1 + 2": 3, "1.50 + bonus": 650, "hours + -days": 7, "base + base": 2008,
		"2 - 1": 1, "days - hours": -7, "bonus - base": -504, "base - base": 0, "1 - 2 - 3": -4, "1 - (2 - 3)": 2,
		"2 * 3": 6, "-2 * 3": -6, "-2 * -3": 6, "0 * hours": 0, "hours * days": 30, "1.50 * 2": 300, "2 * 1.50": 300, "hours * -base": -10040, "base * 0": 0,
		"base * 12.50%": 126, "12.50% * base": 126, "base * 0.00%": 0, "base * 100.00%": 1004, "-base * 12.50%": -126, "-base * 100.00%": -1004,
		"base * 12.50% * 2": 252, "2 * base * 12.50%": 251, "base * (2 * 3) * 1.00%": 60, "base * 50.00% * 50.00%": 251, "base * days * 50.00%": 1506,
		"2 < 3": 1, "3 < 3": 0, "4 < 3": 0, "2 <= 3": 1, "3 <= 3": 1, "4 <= 3": 0, "2 = 3": 0, "3 = 3": 1, "4 = 3": 0,
		"2 <> 3": 1, "3 <> 3": 0, "4 <> 3": 1, "2 > 3": 0, "3 > 3": 0, "4 > 3": 1, "2 >= 3": 0, "3 >= 3": 1, "4 >= 3": 1, "-4 < -3": 1, "-4 > 3": 0,
		"base < bonus": 0, "base > bonus": 1, "base = 10.04": 1, "base <> 10.04": 0, "-base < bonus": 1, "base >= 10.04": 1, "base <= 10.03": 0,
		"1.00% < 2.00%": 1, "1.00% > 2.00%": 0, "1.00% = 1.00%": 1, "1.00% <> 1.00%": 0, "1.00% <= 0.99%": 0, "1.00% >= 0.99%": 1,
		"lead = lead": 1, "lead <> lead": 0, "lead = (1 < 2)": 1, "lead = (2 < 1)": 0, "lead <> (2 < 1)": 1, "(2 < 1) = (3 < 1)": 1, "(2 < 1) <> (1 < 3)": 1,
		"min(2, 3)": 2, "min(3, 2)": 2, "min(2, 2)": 2, "max(2, 3)": 3, "max(3, 2)": 3, "max(-2, -3)": -2, "min(-2, -3)": -3,
		"min(base, bonus)": 500, "max(base, bonus)": 1004, "min(-base, bonus)": -1004, "min(1.00%, 2.00%)": 100, "max(1.00%, 2.00%)": 200,
		"base * min(50.00%, 25.00%)": 251, "base * max(50.00%, 25.00%)": 502, "max(base, bonus) * min(hours, days)": 3012, "min(base, bonus) * max(hours, days)": 5000,
		"if lead then 1 else 2": 1, "if lead = (1 > 2) then 1 else 2": 2, "if lead then base else bonus": 1004, "if 1 > 2 then base else bonus": 500,
		"if lead then 1.00% else 2.00%": 100, "if 1 > 2 then 1.00% else 2.00%": 200, "if lead then 1 > 2 else 1 < 2": 0, "if 2 < 1 then 1 > 2 else 1 < 2": 1,
		"base * (if lead then 50.00% else 25.00%)": 502, "base * (if 1 > 2 then 50.00% else 25.00%)": 251, "hours * (if lead then base else bonus)": 10040,
		"if if lead then 1 > 2 else lead then 3 else 4": 4, "if hours >= 10 then if days > 5 then 1 else 2 else 3": 2,
		"if hours > 8 then bonus * (hours - 8) * 50.00% else 0.00": 500, "-min(base, 8.00) + 2 * max(bonus, 1.00)": 200,
	} {
		is(t, s, some(), n)
	}
	in := some()
	in.Lead = false
	for s, n := range map[string]int{"lead": 0, "if lead then 1 else 2": 2, "lead = (2 < 1)": 1, "lead <> (1 < 2)": 1, "if lead = lead then base else bonus": 1004, "if lead then lead else 1 < 2": 1} {
		is(t, s, in, n)
	}
	is(t, "base + bonus * hours - base * days", value.Inputs{Base: -7, Bonus: 11, Hours: -5, Days: -3}, -83)
}

// P12.1: halves go to the even one, above and below 0, and nothing else does; by a Money and a Rate in either order.
func TestHalves(t *testing.T) {
	for _, x := range []struct {
		n, bps, want int
	}{
		{0, 5000, 0}, {1, 5000, 0}, {2, 5000, 1}, {3, 5000, 2}, {5, 5000, 2}, {7, 5000, 4}, {9, 5000, 4}, {11, 5000, 6},
		{1, 4999, 0}, {1, 5001, 1}, {3, 4999, 1}, {3, 5001, 2}, {5, 4999, 2}, {5, 5001, 3},
		{4999, 1, 0}, {5000, 1, 0}, {5001, 1, 1}, {14999, 1, 1}, {15000, 1, 2}, {15001, 1, 2}, {24999, 1, 2}, {25000, 1, 2}, {25001, 1, 3}, {35000, 1, 4},
		{1004, 1250, 126}, {1012, 1250, 126}, {1020, 1250, 128}, {100001, 1250, 12500}, {2, 2500, 0}, {6, 2500, 2}, {10, 2500, 2}, {14, 2500, 4}, {1, 9999, 1}, {1, 10000, 1}, {9, 0, 0},
		{api.Most, 5000, 1 << 62}, {api.Most - 2, 5000, 1<<62 - 2}, {api.Most - 4, 5000, 1<<62 - 2}, {api.Most, 10000, api.Most}, {api.Most, 0, 0},
		{api.Most, 9999, 9222449699651090329}, {api.Most, 1, 922337203685478}, {api.Most, 3333, 3074149899883696776},
	} {
		rate := strconv.Itoa(x.bps/100) + "." + strconv.Itoa(x.bps%100/10) + strconv.Itoa(x.bps%10) + "%"
		for _, side := range []int{1, -1} {
			in := value.Inputs{Base: side * x.n}
			is(t, "base * "+rate, in, side*x.want)
			is(t, rate+" * base", in, side*x.want)
			is(t, "-("+rate+" * -base)", in, side*x.want)
		}
	}
	for n := -60; n <= 60; n++ {
		for bps := 0; bps <= 10000; bps += 125 {
			p := program(amount(n), percent(bps), two("*", 0, 1), two("*", 1, 0))
			holdExpr(t, p, 2, nil)
			holdExpr(t, p, 3, nil)
		}
	}
}

// P12.1: values at the limits of amounts, and one farther, of Money and of Number.
func TestLimits(t *testing.T) {
	for _, x := range []struct {
		op         string
		a, b, want int
		ok         bool
	}{
		{"+", api.Most, 0, api.Most, true}, {"+", api.Most, 1, 0, false}, {"+", api.Most - 1, 1, api.Most, true}, {"+", 1 << 62, 1<<62 - 1, api.Most, true}, {"+", 1 << 62, 1 << 62, 0, false},
		{"+", -api.Most, 0, -api.Most, true}, {"+", -api.Most, -1, 0, false}, {"+", -api.Most + 1, -1, -api.Most, true}, {"+", -1 << 62, -1 << 62, 0, false}, {"+", -api.Most, api.Most, 0, true},
		{"+", api.Most, api.Most, 0, false}, {"+", -api.Most, -api.Most, 0, false},
		{"-", api.Most, 0, api.Most, true}, {"-", api.Most, -1, 0, false}, {"-", api.Most, 1, api.Most - 1, true}, {"-", -api.Most, 0, -api.Most, true}, {"-", -api.Most, 1, 0, false},
		{"-", 0, api.Most, -api.Most, true}, {"-", 0, -api.Most, api.Most, true}, {"-", -1, api.Most, 0, false}, {"-", 1, -api.Most, 0, false}, {"-", -1, -api.Most, api.Most - 1, true},
		{"-", api.Most, api.Most, 0, true}, {"-", -api.Most, -api.Most, 0, true}, {"-", -api.Most, api.Most, 0, false},
	} {
		isOrNot(t, "base "+x.op+" bonus", value.Inputs{Base: x.a, Bonus: x.b}, x.want, x.ok)
		isOrNot(t, "hours "+x.op+" days", value.Inputs{Hours: x.a, Days: x.b}, x.want, x.ok)
	}
	for _, x := range []struct {
		a, b, want int
		ok         bool
	}{
		{api.Most, 1, api.Most, true}, {api.Most, -1, -api.Most, true}, {api.Most, 0, 0, true}, {api.Most, 2, 0, false}, {api.Most, api.Most, 0, false}, {-api.Most, -api.Most, 0, false}, {-api.Most, -1, api.Most, true},
		{1 << 62, 2, 0, false}, {-1 << 62, 2, 0, false}, {1 << 62, -2, 0, false}, {1<<62 - 1, 2, api.Most - 1, true}, {-1<<62 + 1, 2, -api.Most + 1, true},
		{1 << 32, 1 << 31, 0, false}, {-1 << 32, 1 << 31, 0, false}, {1 << 32, 1 << 32, 0, false}, {1 << 31, 1 << 31, 1 << 62, true},
		{3037000499, 3037000499, 9223372030926249001, true}, {3037000500, 3037000500, 0, false}, {-3037000499, 3037000499, -9223372030926249001, true}, {-3037000500, 3037000500, 0, false},
		{1317624576693539401, 7, api.Most, true}, {1317624576693539401, -7, -api.Most, true}, {1317624576693539402, 7, 0, false},
	} {
		for _, s := range []string{"base * hours", "hours * base"} {
			isOrNot(t, s, value.Inputs{Base: x.a, Hours: x.b}, x.want, x.ok)
			isOrNot(t, s, value.Inputs{Base: x.b, Hours: x.a}, x.want, x.ok)
		}
		isOrNot(t, "hours * days", value.Inputs{Hours: x.a, Days: x.b}, x.want, x.ok)
	}
	for _, n := range edges() {
		in := value.Inputs{Base: n, Bonus: -n, Hours: n, Days: -n}
		for s, want := range map[string]int{"base": n, "-base": -n, "--base": n, "-hours": -n, "base * 1": n, "base * 100.00%": n, "100.00% * base": n, "base * 0.00%": 0, "min(base, bonus)": min(n, -n), "max(hours, days)": max(n, -n), "base + bonus": 0} {
			is(t, s, in, want)
		}
	}
}

// P12.1: all pairs of edges, by each Op that takes two of a kind, or Money with Number, or with Rate.
func TestPairsOfEdges(t *testing.T) {
	exprs := []tree.Expr{name("m"), name("k"), name("n"), name("i"), name("r"), name("q"), name("f"), name("g")}
	for _, op := range strings.Fields("+ - min max < <= = <> > >=") {
		exprs = append(exprs, two(op, 0, 1), two(op, 2, 3))
	}
	for _, op := range strings.Fields("min max < <= = <> > >=") {
		exprs = append(exprs, two(op, 4, 5))
	}
	exprs = append(exprs, two("*", 2, 3), two("*", 0, 3), two("*", 2, 1), two("*", 0, 4), two("*", 5, 1), two("=", 6, 7), two("<>", 6, 7), neg(0), neg(2), choice(6, 0, 1), choice(7, 4, 5))
	p := program(exprs...)
	bits, rates := []int{0, 1}, []int{0, 1, 2, 1250, 3333, 4999, 5000, 5001, 7500, 9999, 10000}
	right, over := 0, 0
	for i, a := range edges() {
		for j, b := range edges() {
			l := []value.Worth{{"m", 1, a}, {"k", 1, b}, {"n", 3, a}, {"i", 3, b}, {"r", 2, rates[i%len(rates)]}, {"q", 2, rates[j%len(rates)]}, {"f", 4, bits[i%2]}, {"g", 4, bits[j%2]}}
			for root := range exprs {
				switch holdExpr(t, p, root, l) {
				case api.OK:
					right++
				case api.ErrOver:
					over++
				default:
					t.Fatalf("%v has no kind", exprs[root])
				}
			}
		}
	}
	if right < 10000 || over < 1000 {
		t.Errorf("%d right, %d too much", right, over)
	}
}

// P12.1: what is too much on the way is, though the end would not be; of two that are compared, and of min and max, too.
func TestTooMuchOnTheWay(t *testing.T) {
	for _, n := range []int{api.Most, -api.Most} {
		in := value.Inputs{Base: n, Bonus: n / api.Most, Hours: n, Days: n / api.Most, Lead: true}
		for _, s := range []string{
			"base + bonus - bonus", "bonus + base - bonus", "base * 2 * 50.00%", "base * 2 * 0", "0 * (base * 2)", "base * 2 - base", "-(base + bonus) + bonus", "(hours + days) * 0", "hours * 2 - hours",
			"base + bonus < 1.00", "1.00 > base + bonus", "base + bonus = base + bonus", "base + bonus <> 0.00", "hours + days >= 0", "0 <= hours + days",
			"min(base + bonus, 0.00)", "min(0.00, base + bonus)", "max(base + bonus, 0.00)", "max(0.00, base + bonus)", "max(0, hours * 2)",
			"if base + bonus > 0.00 then 1 else 2", "if lead = (hours * 2 > 0) then 1 else 2", "if lead then base * 2 else 0.00", "if 2 > 1 then hours * 2 else 0", "if 1 > 2 then 0.00 else base * 2", "if 1 > 2 then 0 else hours * 2",
			"(base * 2) * 1.00%", "1.00% * (base * 2)", "if lead then if lead then base * 2 else 1.00 else 2.00",
		} {
			isTooMuch(t, s, in)
		}
		// Taken the other way round they are not.
		is(t, "base - bonus + bonus", in, n)
		is(t, "base * 50.00% + base * 49.00%", in, n/api.Most*9131138316486228049)
		is(t, "min(base, 0.00)", in, min(n, 0))
	}
}

// P12.1, P12.3: what is not taken turns nothing, however much it is.
func TestNotTaken(t *testing.T) {
	in := value.Inputs{Base: api.Most, Bonus: 700, Hours: -api.Most, Days: 5, Lead: true}
	for s, n := range map[string]int{
		"if lead then bonus else base * 2": 700, "if lead then bonus else base + base - base": 700, "if 1 > 2 then base * 2 else bonus": 700, "if lead then days else hours * 2": 5, "if 1 > 2 then hours - 1 else days": 5,
		"if lead then 1.00% else if base * 2 > 0.00 then 2.00% else 3.00%": 100, "if lead then lead else base * 2 > 0.00": 1, "if 1 > 2 then base * 2 > 0.00 else lead": 1,
		"if lead then if lead then bonus else base * 2 else base * 3": 700, "if 1 > 2 then base * 2 else if 2 > 3 then base * 3 else bonus": 700,
		"if if lead then lead else base * 2 > 0.00 then 1 else 2": 1, "(if lead then bonus else base * 2) * 2": 1400, "-(if 1 > 2 then hours * 2 else days)": -5,
		"min(bonus, if lead then base else base * 2)": 700, "(if lead then 1 else hours * 2) + (if lead then 2 else hours * 3)": 3, "if base > bonus then base else base + bonus": api.Most,
	} {
		is(t, s, in, n)
	}
	in.Lead = false
	isTooMuch(t, "if lead then bonus else base * 2", in)
	is(t, "if lead then base * 2 else bonus", in, 700)
	// One that an if does not take is too much all the same, where another one takes it.
	double := []tree.Expr{name("f"), name("m"), two("+", 1, 1), choice(0, 1, 2)}
	for f, want := range map[int][3]api.Errno{1: {api.OK, api.ErrOver, api.ErrOver}, 0: {api.ErrOver, api.ErrOver, api.ErrOver}} {
		l := []value.Worth{{"f", api.Flag, f}, {"m", api.Money, api.Most}}
		for i, last := range []tree.Expr{two("min", 3, 3), two("min", 3, 2), choice(0, 2, 2)} {
			p := program(append(slices.Clone(double), last)...)
			if e := holdExpr(t, p, 4, l); e != want[i] {
				t.Errorf("%v, flag %d: %d", last, f, e)
			}
		}
	}
	// Leaves that are no amounts.
	for f, want := range []int{8, 7} {
		for i, spoilt := range []int{7, 8} {
			p := program(name("f"), whole(7), whole(8), choice(0, 1, 2))
			p.Exprs[1+i].Value = least
			l := []value.Worth{{"f", api.Flag, f}}
			if want == spoilt {
				exprIs(t, p, 3, l, 0, api.ErrOver)
			} else {
				exprIs(t, p, 3, l, want, api.OK)
			}
		}
	}
}

// P12.1: leaves are their Values, also those that no text has; too much, if they are no amounts.
func TestLeaves(t *testing.T) {
	for _, n := range append(edges(), -1250, 20000, 1000000000) {
		for _, x := range []tree.Expr{whole(n), amount(n), percent(n)} {
			exprIs(t, program(x), 0, nil, n, api.OK)
			x.Name, x.A, x.B, x.C = "f", 7, -7, least
			exprIs(t, program(x), 0, []value.Worth{{"f", api.Flag, 1}}, n, api.OK)
			exprIs(t, program(x, two("min", 0, 0)), 1, nil, n, api.OK)
			exprIs(t, program(x, two("<=", 0, 0)), 1, nil, 1, api.OK)
		}
	}
	for _, x := range []tree.Expr{whole(least), amount(least), percent(least)} {
		exprIs(t, program(x), 0, nil, 0, api.ErrOver)
		for _, p := range []tree.Program{program(x, two("max", 0, 0)), program(x, two("<", 0, 0)), program(x, two("=", 0, 0)), program(name("f"), x, choice(0, 1, 1))} {
			exprIs(t, p, len(p.Exprs)-1, []value.Worth{{"f", api.Flag, 1}}, 0, api.ErrOver)
		}
	}
	exprIs(t, program(whole(least), neg(0)), 1, nil, 0, api.ErrOver)
	// Money by a leaf that is no rate is reckoned alike.
	for _, x := range []struct {
		n, bps, want int
		e            api.Errno
	}{{100, 20000, 200, api.OK}, {3, 15000, 4, api.OK}, {1, 15000, 2, api.OK}, {3, -5000, -2, api.OK}, {1, -5000, 0, api.OK}, {-5, -5000, 2, api.OK}, {api.Most, 10001, 0, api.ErrOver}, {10000, api.Most, api.Most, api.OK}, {10001, api.Most, 0, api.ErrOver}, {10000, -api.Most, -api.Most, api.OK}, {0, least, 0, api.ErrOver}} {
		exprIs(t, program(amount(x.n), percent(x.bps), two("*", 0, 1)), 2, nil, x.want, x.e)
		exprIs(t, program(amount(x.n), percent(x.bps), two("*", 1, 0)), 2, nil, x.want, x.e)
	}
}

// P12.1: names with one worth, and with several; the first one holds, with its Kind, whatever stands behind.
func TestNames(t *testing.T) {
	kinds := []value.Worth{{"a", api.Money, 150}, {"a", api.Rate, 1250}, {"a", api.Number, -3}, {"a", api.Flag, 1}, {"a", api.Flag, 0}, {"a", api.Money, api.Most}, {"a", api.Number, -api.Most}, {"a", api.Rate, 0}, {"a", api.Rate, 10000}}
	for _, w := range kinds {
		exprIs(t, program(name("a")), 0, []value.Worth{w}, w.Value, api.OK)
		for _, other := range append(kinds, value.Worth{Name: "a", Kind: 0, Value: 5}, value.Worth{Name: "a", Kind: 77, Value: 5}) {
			exprIs(t, program(name("a")), 0, []value.Worth{w, other}, w.Value, api.OK)
			exprIs(t, program(name("a")), 0, []value.Worth{{"b", api.Number, 9}, w, other, other}, w.Value, api.OK)
			other.Name = "b"
			exprIs(t, program(name("a")), 0, []value.Worth{other, w}, w.Value, api.OK)
			exprIs(t, program(name("a")), 0, []value.Worth{w, other}, w.Value, api.OK)
		}
	}
	l := []value.Worth{{"", api.Money, 1}, {"a", api.Money, 2}, {"aa", api.Money, 4}, {"A", api.Money, 8}, {"a ", api.Money, 16}, {"base", api.Money, 32}, {"if", api.Money, 64}, {strings.Repeat("a", 99), api.Money, 128}}
	for _, w := range l {
		exprIs(t, program(name(w.Name)), 0, l, w.Value, api.OK)
		exprIs(t, program(tree.Expr{Op: "name", Name: w.Name, Value: 99, A: -1, B: 5, C: least}), 0, l, w.Value, api.OK)
	}
	// The Kind of the first one turns what a product is.
	p := program(name("a"), name("b"), two("*", 0, 1))
	exprIs(t, p, 2, []value.Worth{{"a", api.Money, 1004}, {"b", api.Rate, 1250}, {"b", api.Number, 2}}, 126, api.OK)
	exprIs(t, p, 2, []value.Worth{{"a", api.Money, 1004}, {"b", api.Number, 1250}, {"b", api.Rate, 2}}, 1255000, api.OK)
	exprIs(t, p, 2, []value.Worth{{"b", api.Money, 1004}, {"a", api.Rate, 1250}}, 126, api.OK)
}

// P12.1: a worth whose Value is none of its kind is ErrOver, wherever it stands, be it asked for or not.
func TestWrongWorths(t *testing.T) {
	numbers := []int{least, -api.Most, -10001, -2, -1, 0, 1, 2, 9999, 10000, 10001, api.Most}
	for kind, right := range map[int][]int{api.Money: numbers[1:], api.Number: numbers[1:], api.Rate: {0, 1, 2, 9999, 10000}, api.Flag: {0, 1}, 0: numbers[1:], 5: numbers[1:], -1: numbers[1:], api.Most: numbers[1:], least: numbers[1:]} {
		for _, n := range numbers {
			e, taken := api.ErrOver, 0
			if slices.Contains(right, n) {
				e, taken = api.OK, 7
			}
			w, of := value.Worth{Name: "w", Kind: kind, Value: n}, value.Worth{Name: "a", Kind: api.Money, Value: 7}
			again := value.Worth{Name: "a", Kind: kind, Value: n}
			for _, l := range [][]value.Worth{{of, w}, {w, of}, {of, w, of}, {w, w, of}, {of, of, w}, {of, again}, {of, again, w}} {
				exprIs(t, program(name("a")), 0, l, taken, e)
				holdExpr(t, program(name("a"), name("a"), two("+", 0, 1)), 2, l)
				exprIs(t, program(whole(7)), 0, l, taken, e)
			}
			switch {
			case kind < 1 || kind > 4:
				exprIs(t, program(name("w")), 0, []value.Worth{w}, 0, api.ErrType)
			case e == api.OK:
				exprIs(t, program(name("w")), 0, []value.Worth{w}, n, api.OK)
			default:
				exprIs(t, program(name("w")), 0, []value.Worth{w}, 0, api.ErrOver)
			}
			// In the part that is not taken, too.
			exprIs(t, program(name("f"), name("a"), name("w"), choice(0, 1, 1)), 3, []value.Worth{{"f", api.Flag, 1}, of, w}, taken, e)
		}
	}
}

// P12.1: layer 10's errors, ahead of ErrOver, of whichever sort that is.
func TestKindErrorsFirst(t *testing.T) {
	for _, l := range [][]value.Worth{{{"m", api.Money, 5}, {"n", api.Number, 5}}, {{"m", api.Money, least}, {"n", api.Number, api.Most}}, {{"m", api.Money, api.Most}, {"n", api.Number, api.Most}, {"z", 0, least}}} {
		p := program(whole(least), name("m"), name("n"), two("+", 1, 2), name("nobody"), two("+", 0, 4), two("*", 1, 1), neg(9), tree.Expr{Op: "what"}, two("+", 9, 9), two("+", 2, 2), two("<", 10, 6), two("+", 4, 3))
		for root, want := range map[int]api.Errno{3: api.ErrType, 4: api.ErrNone, 5: api.ErrNone, 6: api.ErrType, 7: api.ErrArg, 8: api.ErrType, 9: api.ErrArg, 11: api.ErrType, 12: api.ErrType, -1: api.ErrArg, 13: api.ErrArg, least: api.ErrArg, api.Most: api.ErrArg, 0: api.ErrOver} {
			exprIs(t, p, root, l, 0, want)
		}
	}
	exprIs(t, tree.Program{}, 0, nil, 0, api.ErrArg)
	exprIs(t, tree.Program{}, 0, []value.Worth{{"a", api.Rate, -1}}, 0, api.ErrArg)
	// In a part that is not taken an error of kinds is one all the same.
	f := []value.Worth{{"f", api.Flag, 1}, {"odd", 7, 1}}
	exprIs(t, program(name("f"), whole(1), name("nobody"), choice(0, 1, 2)), 3, f, 0, api.ErrNone)
	exprIs(t, program(name("f"), whole(1), amount(2), choice(0, 1, 2)), 3, f, 0, api.ErrType)
	exprIs(t, program(name("f"), whole(1), name("odd"), choice(0, 1, 2)), 3, f, 0, api.ErrType)
	exprIs(t, program(name("f"), whole(1), choice(0, 1, 3), whole(2)), 2, f, 0, api.ErrArg)
	// Exprs of which the root is not made are not asked.
	exprIs(t, program(neg(5), tree.Expr{Op: "what"}, name("nobody"), choice(-1, least, api.Most), whole(least), whole(7), neg(5), neg(0)), 6, f, -7, api.OK)
}

// P12.2: rules that hang on one another, in another order than they stand; values by their places.
func TestAll(t *testing.T) {
	for s, want := range map[string][]int{
		"": nil, "# nothing\n": nil,
		"earn a = base;":                                        {1004},
		"let a = b; let b = 1;":                                 {1, 1},
		"let a = b + 1; let b = c * 2; let c = 7;":              {15, 14, 7},
		"let a = 1; let b = a + 1; let c = b + a;":              {1, 2, 3},
		"earn b = a * 2; let a = if lead then base else bonus;": {2008, 1004},
		"earn pay = base * share; let share = if full then 100.00% else 50.00%; let full = days > 5;": {502, 5000, 0},
		"let f = not = lead; let not = 1 > 2; earn x = if f then base else bonus; post y = -x;":       {0, 0, 500, -500},
		"earn a = base; pretax b = a * 10.00%; post c = a - b; let d = hours; let e = 12.50%;":        {1004, 100, 904, 10, 1250},
		"let r3 = r1 + r2; let r1 = r2 * r2; let r2 = r0 - 1; let r0 = days;":                         {6, 4, 2, 3},
		"let whole = 1; let name = whole + 1; let neg = -name;":                                       {1, 2, -2},
		"let big = 9; let b = if lead then 1.00 else huge * hours; let huge = 90000000000000000.00;":  {9, 100, 9000000000000000000},
	} {
		p := read(t, s)
		allIs(t, p, some(), want, 0, api.OK)
		holdAll(t, p, some())
	}
	for _, n := range edges() {
		in := value.Inputs{Base: n, Bonus: -n, Hours: n, Days: -n, Lead: n > 0}
		allIs(t, read(t, "earn a = f; earn b = base; let c = days; let d = hours; let e = lead; earn f = bonus;"), in, []int{-n, n, -n, n, min(max(n, 0), 1), -n}, 0, api.OK)
		allIs(t, tree.Program{}, in, nil, 0, api.OK)
	}
}

// P12.2: as many rules as there may be, each on the next one.
func TestMostRules(t *testing.T) {
	var up, down strings.Builder
	var values, doubled []int
	for i := range 60 {
		up.WriteString("let r" + strconv.Itoa(i) + " = r" + strconv.Itoa(i+1) + " + 1;")
		values = append(values, 60+3-i)
		down.WriteString("let r" + strconv.Itoa(i) + " = r" + strconv.Itoa(i-1) + " + r" + strconv.Itoa(i-1) + ";")
		doubled = append(doubled, 3<<i)
	}
	in := some()
	allIs(t, read(t, strings.Replace(up.String(), "r60", "days", 1)), in, values, 0, api.OK)
	allIs(t, read(t, strings.Replace(down.String(), "r-1 + r-1", "hours - 7", 1)), in, doubled, 0, api.OK)
	// At place i it is 3 times 2 to the (30 + i)th; 3 times 2 to the 61st is the last one that is an amount.
	in.Hours = 7 + 3<<30
	allIs(t, read(t, strings.Replace(down.String(), "r-1 + r-1", "hours - 7", 1)), in, nil, 32, api.ErrOver)
	in.Hours = api.Most
	allIs(t, read(t, strings.Replace(down.String(), "r-1 + r-1", "hours - 7", 1)), in, nil, 1, api.ErrOver)
}

// P12.2: the place of a rule that is too much; of several the first one in layer 11's order, not the least place.
func TestPlaces(t *testing.T) {
	in := value.Inputs{Base: api.Most, Bonus: 100, Hours: api.Most, Days: 2, Lead: true}
	for s, at := range map[string]int{
		"earn a = base * 2;": 0, "let a = 1; let b = hours + 1;": 1, "let a = 1; let b = hours + 1; let c = 2;": 1, "let a = hours + 1; let b = hours + 2;": 0,
		"let a = b; let b = hours * 2;": 1, "let a = hours + b; let b = hours + 1;": 1, "let a = hours + b; let b = 1; let c = hours * 2;": 0, "let a = hours + c; let b = hours * 2; let c = 1;": 1,
		"let a = d + 1; let b = c + 1; let c = hours; let d = 1;":             1,
		"let a = d + hours; let b = c + hours; let c = 1; let d = hours * 2;": 1,
		"let a = if lead then 1 else b; let b = hours * 2;":                   1,
		"let a = if b > 0 then 1 else 2; let b = hours * 2;":                  1,
		"let a = 1; earn b = base; pretax c = bonus; post d = b + c;":         3,
	} {
		p := read(t, s)
		allIs(t, p, in, nil, at, api.ErrOver)
		holdAll(t, p, in)
	}
}

// P12.2: inputs that are no amounts are ErrOver, and 0, whatever the rules are, and be they asked for or not.
func TestWrongInputs(t *testing.T) {
	for i := range 4 {
		in := some()
		*[]*int{&in.Base, &in.Bonus, &in.Hours, &in.Days}[i] = least
		for _, s := range []string{"", "let a = 1;", "let a = 1; earn b = base; let c = hours; earn d = bonus * days;", "let a = 1; let b = 999999999 * 999999999 * 999999999;", "let a = b; let b = if lead then 1 else days;"} {
			allIs(t, read(t, s), in, nil, 0, api.ErrOver)
			holdAll(t, read(t, s), in)
		}
	}
	allIs(t, read(t, "let a = 1; let b = 999999999 * 999999999 * 999999999;"), some(), nil, 1, api.ErrOver)
	allIs(t, read(t, "earn a = bonus;"), value.Inputs{Base: least, Bonus: least, Hours: least, Days: least}, nil, 0, api.ErrOver)
}

// P12.2: layer 11's errors, with their places, ahead of inputs that are no amounts, and of what is too much.
func TestOrderErrorsFirst(t *testing.T) {
	for _, in := range []value.Inputs{some(), {Base: least, Hours: least}, {Base: api.Most, Bonus: api.Most, Hours: api.Most, Days: api.Most}} {
		for _, x := range []struct {
			s  string
			at int
			e  api.Errno
		}{
			{"let a = 1; let a = 2;", 1, api.ErrThere}, {"let a = hours * hours; let b = 1; let lead = 2;", 2, api.ErrThere}, {"let a = hours * hours; let b = b;", 1, api.ErrCycle}, {"let a = 1; let b = c; let c = b + hours * hours;", 1, api.ErrCycle},
			{"let a = hours * hours; let b = nobody;", 1, api.ErrNone}, {"let a = hours * hours; let b = 1; let c = base * base;", 2, api.ErrType}, {"let a = hours * hours; post b = hours;", 1, api.ErrType}, {"let a = if lead then 1 else nobody;", 0, api.ErrNone},
			{"let a = b; let b = base + hours;", 1, api.ErrType}, {"let a = b + base; let b = hours * hours;", 0, api.ErrType},
		} {
			allIs(t, read(t, x.s), in, nil, x.at, x.e)
			holdAll(t, read(t, x.s), in)
		}
		for _, spoil := range []func(p *tree.Program){
			func(p *tree.Program) { p.Rules = p.Rules[1:] },
			func(p *tree.Program) { p.Rules[1].Root = -1 },
			func(p *tree.Program) { p.Rules[1].Root = 99 },
			func(p *tree.Program) { p.Rules[0].Kind = "tax" },
			func(p *tree.Program) { p.Exprs[0].Value = -1 },
			func(p *tree.Program) { p.Exprs[0].Value = least },
			func(p *tree.Program) { p.Exprs[0].Op = "what" },
			func(p *tree.Program) { p.Exprs = nil },
			func(p *tree.Program) { p.Exprs[2].A = 2 },
			func(p *tree.Program) { p.Exprs = append(p.Exprs, whole(1)) },
		} {
			p := read(t, "let a = 1 + 2; let b = hours * a; let c = a;")
			spoil(&p)
			allIs(t, p, in, nil, 0, api.ErrArg)
		}
	}
}

// strewn makes numbers that are the same each time.
type strewn uint64

func (g *strewn) below(n int) int {
	*g = *g*6364136223846793005 + 1442695040888963407
	return int(uint64(*g) >> 33 % uint64(n))
}

func (g *strewn) of(words ...string) string {
	return words[g.below(len(words))]
}

// inputs are edges, and seldom none.
func (g *strewn) inputs() value.Inputs {
	n := func() int {
		if g.below(200) == 0 {
			return least
		}
		if g.below(2) == 0 {
			return g.below(200001) - 100000
		}
		return edges()[g.below(len(edges()))]
	}
	return value.Inputs{Base: n(), Bonus: n(), Hours: n(), Days: n(), Lead: g.below(2) == 0}
}

// expression is one of that kind, of the inputs, and of those names, by their kinds.
func (g *strewn) expression(kind int, names [5][]string, depth int) string {
	in := func(kind int) string { return g.expression(kind, names, depth+1) }
	way := g.below(8)
	switch {
	case depth > 4 || way < 2:
		l := [][]string{{"base", "bonus", "10.05"}, {"5.00%", "12.50%", "50.00%"}, {"hours", "days", "3"}, {"lead"}}[kind-1]
		return g.of(append(l, names[kind]...)...)
	case way < 4:
		return "(if " + in(api.Flag) + " then " + in(kind) + " else " + in(kind) + ")"
	case kind == api.Flag:
		compared := 1 + g.below(3)
		if g.below(4) == 0 {
			return "(" + in(api.Flag) + g.of(" = ", " <> ") + in(api.Flag) + ")"
		}
		return "(" + in(compared) + g.of(" < ", " <= ", " = ", " <> ", " > ", " >= ") + in(compared) + ")"
	case way == 4 || kind == api.Rate:
		return g.of("min(", "max(") + in(kind) + "," + in(kind) + ")"
	case way == 5:
		return "(-" + in(kind) + ")"
	case way == 6 && kind == api.Money:
		return g.of("("+in(api.Money)+" * "+in(2+g.below(2))+")", "("+in(2+g.below(2))+" * "+in(api.Money)+")")
	case way == 6:
		return "(" + in(api.Number) + " * " + in(api.Number) + ")"
	}
	return "(" + in(kind) + g.of(" + ", " - ") + in(kind) + ")"
}

// rules are that many, of expressions of all sorts, each of those ahead of it in an order that is not theirs.
func (g *strewn) rules(count int) string {
	var names [5][]string
	var lines []string
	for i := range count {
		kind, name := 1+g.below(4), "r"+strconv.Itoa(i)
		lines = slices.Insert(lines, g.below(i+1), "let "+name+" = "+g.expression(kind, names, 1)+";\n")
		names[kind] = append(names[kind], name, name)
	}
	return strings.Join(lines, "")
}

// P12.1, P12.2: programs of all sorts, with inputs of all sorts.
func TestStrewnRules(t *testing.T) {
	g := strewn(121)
	var came [api.ErrShut + 1]int
	for i := range 3000 {
		p := read(t, g.rules(1+g.below([]int{2, 6, 20}[i%3])))
		for range 4 {
			came[holdAll(t, p, g.inputs())]++
		}
	}
	if came[api.OK] < 2000 || came[api.ErrOver] < 2000 || came[api.OK]+came[api.ErrOver] != 12000 {
		t.Errorf("errors: %v", came)
	}
}

// P12.1: programs that no text is read to: with parts that several have, odd Values and Ops, and worths of all sorts.
func TestStrewnExprs(t *testing.T) {
	g := strewn(122)
	var came [api.ErrShut + 1]int
	for range 4000 {
		p := read(t, "let x = "+g.expression(1+g.below(4), [5][]string{}, 0)+";")
		l := worthsOf(g.inputs())
		for range g.below(6) {
			x := &p.Exprs[g.below(len(p.Exprs))]
			switch at := g.below(len(p.Exprs)); g.below(6) {
			case 0:
				x.A = at
			case 1:
				x.B = at
			case 2:
				x.C = at - 1
			case 3:
				x.Value = append(edges(), least)[g.below(len(edges())+1)]
			case 4:
				if x.Op == p.Exprs[at].Op {
					*x = p.Exprs[at]
				}
			default:
				l = append(l, value.Worth{Name: g.of("base", "lead", "nobody"), Kind: g.below(6), Value: g.below(3)})
			}
		}
		if g.below(3) == 0 {
			l[g.below(len(l))].Kind = 1 + g.below(4)
		}
		for root := range p.Exprs {
			came[holdExpr(t, p, root, l)]++
		}
	}
	for _, e := range []api.Errno{api.OK, api.ErrArg, api.ErrOver, api.ErrType} {
		if came[e] < 500 {
			t.Errorf("%d times %d", came[e], e)
		}
	}
}

// P12.3: an if is what it takes, be that right or too much, whatever the other part is.
func TestAsTaken(t *testing.T) {
	g := strewn(123)
	right, over := 0, 0
	for range 3000 {
		kind, in := 1+g.below(4), g.inputs()
		f, x, y := g.expression(api.Flag, [5][]string{}, 2), g.expression(kind, [5][]string{}, 1), g.expression(kind, [5][]string{}, 1)
		p := read(t, "let f = "+f+"; let z = if f then "+x+" else "+y+";")
		flag, _, e := value.All(read(t, "let f = "+f+";"), in)
		if e != api.OK {
			allIs(t, p, in, nil, 0, e)
			continue
		}
		taken := map[int]string{1: x, 0: y}[flag[0]]
		n, _, e := value.All(read(t, "let z = "+taken+";"), in)
		if e != api.OK {
			allIs(t, p, in, nil, 1, e)
			over++
			continue
		}
		allIs(t, p, in, []int{flag[0], n[0]}, 0, api.OK)
		right++
	}
	if right < 500 || over < 100 {
		t.Errorf("%d right, %d too much", right, over)
	}
}

// P12.3: the same inputs have the same values, whatever was asked between.
func TestAlike(t *testing.T) {
	g := strewn(124)
	for range 200 {
		p, in := read(t, g.rules(12)), g.inputs()
		values, at, e := value.All(p, in)
		for range 3 {
			value.All(read(t, g.rules(5)), g.inputs())
			value.All(p, g.inputs())
			allIs(t, p, in, values, at, e)
		}
	}
}

// P1: expressions that are long, or deep, or come to one part in very many ways, and many names with many worths, are told, and soon.
func TestLong(t *testing.T) {
	const many = 100000
	is(t, strings.Repeat("1 + ", many)+"days", some(), many+3)
	is(t, strings.Repeat("-1.00 + ", many)+"base", some(), -100*many+1004)
	isTooMuch(t, strings.Repeat("hours + ", many)+"1", value.Inputs{Hours: api.Most / 1000})

	nested, ways, choices := []tree.Expr{whole(7)}, []tree.Expr{name("a"), whole(0)}, []tree.Expr{name("f"), name("a")}
	for i := range many {
		nested = append(nested, neg(i))
		ways = append(ways, two("max", len(ways)-1, max(len(ways)-2, 0)))
		choices = append(choices, choice(0, len(choices)-1, len(choices)-1))
	}
	l := []value.Worth{{"a", api.Number, 5}, {"f", api.Flag, 1}}
	exprIs(t, program(nested...), many, l, 7, api.OK)
	exprIs(t, program(nested...), many-1, l, -7, api.OK)
	exprIs(t, program(ways...), len(ways)-1, l, 5, api.OK)
	exprIs(t, program(choices...), len(choices)-1, l, 5, api.OK)

	var names []tree.Expr
	var worths []value.Worth
	sum := []tree.Expr{whole(0)}
	for i := range 50000 {
		s := "n" + strconv.Itoa(i)
		names = append(names, name(s))
		worths = append(worths, value.Worth{Name: s, Kind: api.Number, Value: i})
		sum = append(sum, name(s), two("+", max(len(sum)-1, 0), len(sum)))
	}
	exprIs(t, program(sum...), len(sum)-1, append(worths, worths...), 50000*49999/2, api.OK)
	exprIs(t, program(names...), 49999, worths, 49999, api.OK)

	var rules strings.Builder
	for i := range 60 {
		rules.WriteString("let r" + strconv.Itoa(i) + " = " + strings.Repeat("1 + ", 3000) + "days;")
	}
	allIs(t, read(t, rules.String()), some(), slices.Repeat([]int{3003}, 60), 0, api.OK)
}

// R1, R4: what is handed in stays as it was, up to what lies behind the lists, and is not kept; what is answered is new.
func TestNothingKept(t *testing.T) {
	p := read(t, "earn b = a + a; let a = base; let c = hours * 2; let d = nobody;")
	was := tree.Program{Rules: slices.Clone(p.Rules), Exprs: slices.Clone(p.Exprs)}
	part := tree.Program{Rules: p.Rules[:3], Exprs: p.Exprs[:7]}
	l := []value.Worth{{"a", api.Money, 7}, {"hours", api.Number, 8}, {"a", api.Money, least}}
	for range 3 {
		allIs(t, part, some(), []int{2008, 1004, 20}, 0, api.OK)
		allIs(t, p, some(), nil, 3, api.ErrNone)
		exprIs(t, part, 2, l[:2], 14, api.OK)
		exprIs(t, part, 2, l[:1:1], 14, api.OK)
		exprIs(t, part, 2, l, 0, api.ErrOver)
		values, _, _ := value.All(part, some())
		clear(values[:cap(values)])
	}
	if !slices.Equal(p.Rules, was.Rules) || !slices.Equal(p.Exprs, was.Exprs) || !slices.Equal(l, []value.Worth{{"a", api.Money, 7}, {"hours", api.Number, 8}, {"a", api.Money, least}}) {
		t.Errorf("%v, %v, was %v", p, l, was)
	}
	l[0].Value, p.Exprs[3].Name = 9, "bonus"
	exprIs(t, part, 2, l[:2], 18, api.OK)
	allIs(t, part, some(), []int{1000, 500, 20}, 0, api.OK)
}
