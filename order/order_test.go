package order_test

import (
	"slices"
	"strconv"
	"strings"
	"testing"

	"paymaster/api"
	"paymaster/check"
	"paymaster/order"
	"paymaster/tree"
)

// read is the program that is read of a text without a fault.
func read(t *testing.T, s string) tree.Program {
	t.Helper()
	p, at, e := tree.Parse(s)
	if e != api.OK {
		t.Fatalf("Parse(%.300q): %d, %d", s, at, e)
	}
	return p
}

// sorts: what is read of s has that order.
func sorts(t *testing.T, s string, l ...int) {
	t.Helper()
	p := read(t, s)
	sortIs(t, p, l)
	hold(t, p)
}

// sortsNot: what is read of s has no order.
func sortsNot(t *testing.T, s string, place int, e api.Errno) {
	t.Helper()
	p := read(t, s)
	fails(t, p, place, e)
	hold(t, p)
}

// checks: what is read of s has these kinds.
func checks(t *testing.T, s string, kinds ...int) {
	t.Helper()
	p := read(t, s)
	l, _, _ := order.Sort(p)
	checkIs(t, p, l, kinds)
	hold(t, p)
}

// checksNot: what is read of s has an order, but no kinds.
func checksNot(t *testing.T, s string, place int, e api.Errno) {
	t.Helper()
	p := read(t, s)
	checkFails(t, p, place, e)
	if sorted, _ := hold(t, p); sorted != api.OK {
		t.Errorf("Sort of %.300q: %d", s, sorted)
	}
}

// lets are rules of these expressions, whose Names are r0, r1 and so on.
func lets(expressions ...string) string {
	var b strings.Builder
	for i, x := range expressions {
		b.WriteString("let r" + strconv.Itoa(i) + " = " + x + ";\n")
	}
	return b.String()
}

// upTo are the numbers from 0 to count - 1.
func upTo(count int) []int {
	var l []int
	for i := range count {
		l = append(l, i)
	}
	return l
}

// P11.1: the five inputs, in order, new ones each time.
func TestInputs(t *testing.T) {
	for range 2 {
		l := order.Inputs()
		if !slices.Equal(l, inputs()) {
			t.Fatalf("Inputs() = %v", l)
		}
		for i := range l {
			l[i] = check.Bind{Name: "r0", Kind: 2}
		}
		l = append(l[:1], check.Bind{})
		sorts(t, lets("1"), 0)
		checks(t, lets("base", "bonus", "hours", "days", "lead"), api.Money, api.Money, api.Number, api.Number, api.Flag)
	}
}

// P11.1, P11.2: no rules have an empty order.
func TestNoRules(t *testing.T) {
	sorts(t, "")
	checks(t, " # let a = a;\n")
	for _, p := range []tree.Program{{}, {Rules: []tree.Rule{}}, {Exprs: []tree.Expr{}}} {
		sortIs(t, p, nil)
		checkIs(t, p, nil, nil)
	}
}

// P11.1: rules that hang on none, on inputs, on one ahead, on one behind, on several, and several on one.
func TestOrders(t *testing.T) {
	sorts(t, "let a = 1;", 0)
	sorts(t, "earn a = base; pretax b = bonus; post c = 1.00; let d = lead;", 0, 1, 2, 3)
	sorts(t, "let a = base * days + bonus * hours; let b = lead;", 0, 1)
	sorts(t, "let a = 1; let b = a;", 0, 1)
	sorts(t, "let a = b; let b = 1;", 1, 0)
	sorts(t, "let c = a + b; let b = a; let a = 1;", 2, 1, 0)
	sorts(t, "let a = 1; let b = a; let c = b; let d = c;", 0, 1, 2, 3)
	sorts(t, "let a = b; let b = c; let c = d; let d = 1;", 3, 2, 1, 0)
	sorts(t, "let a = c; let b = 1; let c = b; let d = a;", 1, 2, 0, 3)
	sorts(t, "let a = d; let b = d; let c = d; let d = 1;", 3, 0, 1, 2)
	sorts(t, "let a = 1; let b = a; let c = a; let d = a;", 0, 1, 2, 3)
	sorts(t, "let a = b + c + d; let b = 1; let c = 2; let d = 3;", 1, 2, 3, 0)
	sorts(t, "let a = b * b + b; let b = 1;", 1, 0)
	sorts(t, "let a = nobody; let b = a; let c = noone;", 0, 1, 2)
}

// P11.1: the least one that is free comes next, also one that has just become free.
func TestLeastFirst(t *testing.T) {
	sorts(t, lets("1", "2", "3"), 0, 1, 2)
	sorts(t, lets("r3", "1", "2", "3"), 1, 2, 3, 0)
	sorts(t, lets("r1", "1", "2", "3"), 1, 0, 2, 3)
	sorts(t, lets("r2", "r0", "1", "2"), 2, 0, 1, 3)
	sorts(t, lets("r4", "r0", "1", "r1", "2", "3"), 2, 4, 0, 1, 3, 5)
	sorts(t, lets("r1", "r4", "r5", "r0", "1", "2"), 4, 1, 0, 3, 5, 2)
	sorts(t, lets("r5", "r4", "r3", "1", "2", "3"), 3, 2, 4, 1, 5, 0)
	sorts(t, lets("r2 + r3", "r3", "1", "1"), 2, 3, 0, 1)
}

// P11.1: a name in whatever part of an expression makes the rule hang on it; what is no name, and Names that are near, do not.
func TestNamesInParts(t *testing.T) {
	for _, x := range []string{
		"b", "-b", "--b", "(b)", "b + 1", "1 + b", "b - 1", "1 - b", "b * 2", "2 * b", "b < 1", "1 < b", "b <= 1", "1 <= b", "b = 1", "1 = b", "b <> 1", "1 <> b", "b > 1", "1 > b", "b >= 1", "1 >= b",
		"min(b, 1)", "min(1, b)", "max(b, 1)", "max(1, b)", "if b then 1 else 2", "if 1 then b else 2", "if 1 then 2 else b",
		"1 + 2 * (3 - min(4, if 5 < 6 then -(7 + b) else 8)) + 9", "b + b * b", "if b then b else b", "nobody + b", "b + nobody", "base * b",
	} {
		sorts(t, "let a = "+x+"; let b = 1; let c = 2;", 1, 0, 2)
		sorts(t, "let c = 2; let b = 1; let a = "+x+";", 0, 1, 2)
		sortsNot(t, "let c = 2; let b = "+x+"; let a = 1;", 1, api.ErrCycle)
	}
	sorts(t, "let whole = 7; let amount = 1.50; let rate = 2.00%; let name = base; let neg = -1;", 0, 1, 2, 3, 4)
	sorts(t, "let a = 7; let name = a; let whole = name; let neg = -whole;", 0, 1, 2, 3)
	sorts(t, "let a = ab + abc; let ab = 1; let abc = 2; let b = 3; let bc = 4;", 1, 2, 0, 3, 4)
	sorts(t, "let ab = a1 + b; let a = 1; let a11 = 2; let b1 = 3;", 0, 1, 2, 3)
	sorts(t, "let abcdefghijkl = abcdefghijkm; let abcdefghijkm = 1; let abcdefghijk = 2;", 1, 0, 2)
}

// P11.1: rules all round, and the least place that is not in the order, be it of one of them or of one that hangs on them.
func TestCycles(t *testing.T) {
	sortsNot(t, lets("r0"), 0, api.ErrCycle)
	sortsNot(t, lets("1", "r1 + 1"), 1, api.ErrCycle)
	sortsNot(t, lets("1", "2", "-r2", "3"), 2, api.ErrCycle)
	sortsNot(t, lets("r1", "r0"), 0, api.ErrCycle)
	sortsNot(t, lets("1", "r2", "r1"), 1, api.ErrCycle)
	sortsNot(t, lets("1", "r3", "2", "r1"), 1, api.ErrCycle)
	sortsNot(t, lets("r1", "r2", "r0"), 0, api.ErrCycle)
	sortsNot(t, lets("r2", "r0", "r1"), 0, api.ErrCycle)
	sortsNot(t, lets("1", "r4", "r1", "2", "r2"), 1, api.ErrCycle)
	// Beside: free ones, ahead, between and behind, are in the order, though less is not.
	sortsNot(t, lets("r1", "1", "r3", "r2", "r0"), 2, api.ErrCycle)
	sortsNot(t, lets("r5", "1", "r4", "r2", "r3", "2"), 2, api.ErrCycle)
	// Behind: what hangs on those all round is not in the order either, though it is none of them.
	sortsNot(t, lets("r1", "r2", "r1"), 0, api.ErrCycle)
	sortsNot(t, lets("r3", "1", "r2", "r2 + r1"), 0, api.ErrCycle)
	sortsNot(t, lets("1", "r2", "r3", "r4", "r3"), 1, api.ErrCycle)
	// What they hang on is.
	sortsNot(t, lets("r1", "r2", "1", "r3 + r0"), 3, api.ErrCycle)
	sortsNot(t, lets("r3", "r0 + r1", "r0", "4"), 1, api.ErrCycle)
	// Two rounds, the one behind at the least place.
	sortsNot(t, lets("1", "r4", "r3", "r2", "r1"), 1, api.ErrCycle)
	sortsNot(t, lets("r0 + r1", "r1"), 0, api.ErrCycle)
	sortsNot(t, "earn pay = tax; pretax fund = 1.00; post tax = pay * 10.00%;", 0, api.ErrCycle)
}

// P11.1: a Name that is an input's, or that of a rule ahead; the first one of several is told, ahead of rules all round.
func TestNamesTaken(t *testing.T) {
	for _, b := range inputs() {
		for _, k := range []string{"earn", "pretax", "post", "let"} {
			sortsNot(t, k+" "+b.Name+" = 1.00;", 0, api.ErrThere)
			sortsNot(t, "let a = 1; "+k+" "+b.Name+" = a; let b = 2;", 1, api.ErrThere)
			sortsNot(t, "let a = a; let b = 2; "+k+" "+b.Name+" = "+b.Name+";", 2, api.ErrThere)
		}
		sorts(t, "let "+b.Name+"s = 1; let x"+b.Name+" = 2; let "+b.Name[1:]+" = 3;", 0, 1, 2)
	}
	sortsNot(t, "let a = 1; let a = 2;", 1, api.ErrThere)
	sortsNot(t, "earn a = 1.00; let b = 1; post a = 2.00;", 2, api.ErrThere)
	sortsNot(t, "let a = 1; let b = 2; let b = 3; let a = 4;", 2, api.ErrThere)
	sortsNot(t, "let a = 1; let b = 2; let a = 3; let b = 4; let a = 5;", 2, api.ErrThere)
	sortsNot(t, "let a = 1; let a = 2; let base = 3;", 1, api.ErrThere)
	sortsNot(t, "let base = 1; let a = 2; let a = 3;", 0, api.ErrThere)
	sortsNot(t, "let a = 1; let lead = 2; let base = 3; let a = 4;", 1, api.ErrThere)
	sortsNot(t, "let base = 1; let base = 2;", 0, api.ErrThere)
	sortsNot(t, "let a = b; let b = a; let b = nobody; let days = 1;", 2, api.ErrThere)
	sortsNot(t, "let a = a; let a = a;", 1, api.ErrThere)
}

// P11.1: up to as many rules as there may be.
func TestMostRules(t *testing.T) {
	for _, count := range []int{2, 31, 32, 33, 59, 60} {
		last := count - 1
		free, ahead, behind, onFirst, onLast := make([]string, count), make([]string, count), make([]string, count), make([]string, count), make([]string, count)
		for i := range count {
			free[i], onFirst[i], onLast[i] = "1", "r0", "r"+strconv.Itoa(last)
			ahead[i], behind[i] = "r"+strconv.Itoa(i-1), "r"+strconv.Itoa(i+1)
		}
		ahead[0], onFirst[0], behind[last], onLast[last] = "1", "1", "1", "1"
		down := upTo(count)
		slices.Reverse(down)
		sorts(t, lets(free...), upTo(count)...)
		sorts(t, lets(ahead...), upTo(count)...)
		sorts(t, lets(onFirst...), upTo(count)...)
		sorts(t, lets(behind...), down...)
		sorts(t, lets(onLast...), append([]int{last}, upTo(last)...)...)
		checks(t, lets(behind...), slices.Repeat([]int{api.Number}, count)...)
		onAll := slices.Concat([]string{strings.Join(behind[:last], " + ")}, free[1:])
		sorts(t, lets(onAll...), append(upTo(count)[1:], 0)...)

		ahead[0], behind[last] = "r"+strconv.Itoa(last), "r0"
		sortsNot(t, lets(ahead...), 0, api.ErrCycle)
		sortsNot(t, lets(behind...), 0, api.ErrCycle)
		free[last] = "r" + strconv.Itoa(last)
		sortsNot(t, lets(free...), last, api.ErrCycle)
		for _, name := range []string{"r0", "bonus"} {
			sortsNot(t, strings.Replace(lets(ahead...), "let r"+strconv.Itoa(last)+" ", "let "+name+" ", 1), last, api.ErrThere)
		}
	}
}

// P11.1: all ways in which up to three rules may hang on each other, and on themselves, and four on each other: the order is the first one, by its places,
// of all orders in which each rule stands behind what it hangs on.
func TestAllGraphs(t *testing.T) {
	for count := 1; count <= 4; count++ {
		orders := [][]int{nil}
		for range count {
			var more [][]int
			for _, l := range orders {
				for at := range count {
					if !slices.Contains(l, at) {
						more = append(more, append(slices.Clone(l), at))
					}
				}
			}
			orders = more
		}
		for bits := range 1 << (count * count) {
			if count == 4 && bits&(1<<0|1<<5|1<<10|1<<15) != 0 {
				continue // those with one that hangs on itself would take long
			}
			expressions := slices.Repeat([]string{"1"}, count)
			for i := range count * count {
				if bits>>i&1 == 1 {
					expressions[i/count] += " + r" + strconv.Itoa(i%count)
				}
			}
			p := read(t, lets(expressions...))
			right := func(l []int) bool {
				for k, at := range l {
					for _, other := range l[k:] {
						if bits>>(at*count+other)&1 == 1 {
							return false
						}
					}
				}
				return true
			}
			first := slices.IndexFunc(orders, right)
			if sorted, _ := hold(t, p); (sorted == api.ErrCycle) != (first < 0) {
				t.Fatalf("Sort(%s): %d", told(p), sorted)
			}
			if first >= 0 {
				sortIs(t, p, orders[first])
			}
		}
	}
}

// P11.1, P11.2: programs that have no text answer ErrArg, and no place, be their Names taken or not, and their rules all round or not.
func TestNoText(t *testing.T) {
	good := "let a = 1 + hours; earn b = -c; let c = 2.00 * a;"
	checks(t, good, api.Number, api.Money, api.Money)
	for _, s := range []string{good, "let a = 1 + 2; let a = 2; let b = 3;", "let a = -b; let b = a; let base = hours + c;", "let a = a + 1; let lead = 2; let b = nobody;"} {
		for _, spoil := range []func(p *tree.Program){
			func(p *tree.Program) { p.Rules = p.Rules[:len(p.Rules)-1] },
			func(p *tree.Program) { p.Rules = p.Rules[1:] },
			func(p *tree.Program) { p.Rules = nil },
			func(p *tree.Program) { p.Rules = append(p.Rules, tree.Rule{Kind: "let", Name: "d"}) },
			func(p *tree.Program) { p.Rules = slices.Repeat(p.Rules, 30) },
			func(p *tree.Program) { p.Rules[0], p.Rules[1] = p.Rules[1], p.Rules[0] },
			func(p *tree.Program) { p.Rules[1].Root = -1 },
			func(p *tree.Program) { p.Rules[1].Root = len(p.Exprs) },
			func(p *tree.Program) { p.Rules[2].Root = api.Most },
			func(p *tree.Program) { p.Rules[0].Root = -api.Most - 1 },
			func(p *tree.Program) { p.Rules[2].Root = p.Rules[1].Root },
			func(p *tree.Program) { p.Rules[0].Root = 0 },
			func(p *tree.Program) { p.Rules[0].Kind = "lets" },
			func(p *tree.Program) { p.Rules[2].Kind = "" },
			func(p *tree.Program) { p.Rules[0].Name = "" },
			func(p *tree.Program) { p.Rules[1].Name = "abcdefghijklm" },
			func(p *tree.Program) { p.Rules[2].Name = "if" },
			func(p *tree.Program) { p.Exprs = nil },
			func(p *tree.Program) { p.Exprs = p.Exprs[1:] },
			func(p *tree.Program) { p.Exprs = p.Exprs[:len(p.Exprs)-1] },
			func(p *tree.Program) { p.Exprs = append(p.Exprs, tree.Expr{Op: "name", Name: "a"}) },
			func(p *tree.Program) { p.Exprs[0].Op = "" },
			func(p *tree.Program) { p.Exprs[0].Op = "Name" },
			func(p *tree.Program) { p.Exprs[0].Value = -1 },
			func(p *tree.Program) { p.Exprs[0].A = 1 },
			func(p *tree.Program) { p.Exprs[len(p.Exprs)-1] = tree.Expr{Op: "neg", A: len(p.Exprs) - 1} },
			func(p *tree.Program) { p.Exprs[len(p.Exprs)-1] = tree.Expr{Op: "neg", A: -1} },
			func(p *tree.Program) { p.Exprs[len(p.Exprs)-1] = tree.Expr{Op: "name", Name: "A"} },
			func(p *tree.Program) { p.Exprs[p.Rules[0].Root].Name += " " },
		} {
			p := read(t, s)
			spoil(&p)
			fails(t, p, 0, api.ErrArg)
		}
	}
	deep := tree.Program{Rules: []tree.Rule{{Kind: "let", Name: "a", Root: 20}}, Exprs: []tree.Expr{{Op: "name", Name: "a"}}}
	for i := range 20 {
		deep.Exprs = append(deep.Exprs, tree.Expr{Op: "neg", A: i})
	}
	fails(t, deep, 0, api.ErrArg)
	var many tree.Program
	for i := range 61 {
		many.Rules = append(many.Rules, tree.Rule{Kind: "let", Name: "r" + strconv.Itoa(i), Root: i})
		many.Exprs = append(many.Exprs, tree.Expr{Op: "whole", Value: i})
	}
	fails(t, many, 0, api.ErrArg)
	sortIs(t, tree.Program{Rules: many.Rules[:60], Exprs: many.Exprs[:60]}, upTo(60))
}

// P11.2: kinds of rules by the inputs and by each other, by their places, not by the order.
func TestKinds(t *testing.T) {
	checks(t, "let a = 1.50; let b = 2.00%; let c = 3; let d = 1 < 2;", api.Money, api.Rate, api.Number, api.Flag)
	checks(t, "let a = base; let b = bonus; let c = hours; let d = days; let e = lead;", api.Money, api.Money, api.Number, api.Number, api.Flag)
	checks(t, "let b = a < 2; let a = hours; earn c = base;", api.Flag, api.Number, api.Money)
	checks(t, "earn a = base; let b = lead; pretax c = if b then a else bonus;", api.Money, api.Flag, api.Money)
	checks(t, "earn a = b; pretax b = c; post c = d * e; let d = 10.00%; let e = f * 2; let f = 1.00;", api.Money, api.Money, api.Money, api.Rate, api.Money, api.Money)
	checks(t, "let a = b; let b = c; let c = d; let d = lead;", api.Flag, api.Flag, api.Flag, api.Flag)
	checks(t, "let d = c; let c = if b then a else a; let b = a = a; let a = 5.00%;", api.Rate, api.Rate, api.Flag, api.Rate)
	checks(t, "earn a = base + bonus * days; post b = -a; pretax c = min(a, b) * 1.00%;", api.Money, api.Money, api.Money)
}

// P11.2: what layer 10 tells of a rule is told with that rule's place, not with that of the part.
func TestKindErrors(t *testing.T) {
	checksNot(t, "let a = nobody;", 0, api.ErrNone)
	checksNot(t, "let a = 1; let b = nobody;", 1, api.ErrNone)
	checksNot(t, "let a = 1 + 2 + nobody;", 0, api.ErrNone)
	checksNot(t, "let a = 1; let b = 2; earn c = base + nobody * 2; let d = 3;", 2, api.ErrNone)
	checksNot(t, "let a = if lead then 1 else nobody;", 0, api.ErrNone)
	checksNot(t, "let a = if nobody then 1 else 2;", 0, api.ErrNone)
	checksNot(t, "let a = nobody; let nobodys = 1; let nobod = 2;", 0, api.ErrNone)
	checksNot(t, "let a = b + 1.00; let b = 2;", 0, api.ErrType)
	checksNot(t, "let a = 1; let b = a + 1.00;", 1, api.ErrType)
	checksNot(t, "let a = base * bonus;", 0, api.ErrType)
	checksNot(t, "let a = hours + base;", 0, api.ErrType)
	checksNot(t, "let a = 1; let b = lead + days;", 1, api.ErrType)
	checksNot(t, "let a = 1; let b = if base then 1 else 2;", 1, api.ErrType)
	checksNot(t, "let a = -b; let b = 1.00%;", 0, api.ErrType)
	// What it hangs on has its kind from a rule far behind.
	checksNot(t, "let a = b + 1; let b = c; let c = d; let d = 1.00;", 0, api.ErrType)
}

// P11.2: the first one in the order is told, though one at a lesser place is at fault, too.
func TestFirstInOrder(t *testing.T) {
	checksNot(t, "let a = b + nobody; let b = base * base;", 1, api.ErrType)
	checksNot(t, "let a = b + 1.00; let b = nobody;", 1, api.ErrNone)
	checksNot(t, "earn a = hours * b; let b = noone;", 1, api.ErrNone)
	checksNot(t, "let a = d; let b = nobody; let c = 1 + 1.00; let d = 1.00 * 1.00;", 1, api.ErrNone)
	checksNot(t, "let a = c + nobody; earn b = hours; let c = -lead;", 1, api.ErrType)
	checksNot(t, "let a = nobody; let b = noone;", 0, api.ErrNone)
	checksNot(t, "let a = 1 + 1.00; let b = noone;", 0, api.ErrType)
	checksNot(t, "post a = 1; let b = noone;", 0, api.ErrType)
	// Of one rule layer 10's error is told, ahead of that it is not Money.
	checksNot(t, "earn a = nobody + 1;", 0, api.ErrNone)
	checksNot(t, "earn a = nobody;", 0, api.ErrNone)
	// A rule behind one at fault is not told, though it hangs on that one.
	checksNot(t, "let a = b; let b = nobody;", 1, api.ErrNone)
	checksNot(t, "let a = 1 + 1.00; let b = a; let c = a + nobody;", 0, api.ErrType)
}

// P11.2: an earn, a pretax and a post is Money; a let may be what it is.
func TestRuleKinds(t *testing.T) {
	for _, x := range []struct {
		text string
		kind int
	}{{"1.50", api.Money}, {"bonus", api.Money}, {"-0.00", api.Money}, {"5.00%", api.Rate}, {"max(1.00%, 2.00%)", api.Rate}, {"0", api.Number}, {"days", api.Number}, {"lead", api.Flag}, {"1 < 2", api.Flag}} {
		checks(t, "let a = "+x.text+";", x.kind)
		checks(t, "let b = a; let a = "+x.text+";", x.kind, x.kind)
		for _, k := range []string{"earn", "pretax", "post"} {
			if x.kind == api.Money {
				checks(t, k+" a = "+x.text+";", x.kind)
				checks(t, k+" b = a; let a = "+x.text+";", x.kind, x.kind)
				continue
			}
			checksNot(t, k+" a = "+x.text+";", 0, api.ErrType)
			checksNot(t, "let c = 1; "+k+" a = "+x.text+"; let d = 2;", 1, api.ErrType)
			checksNot(t, k+" b = a; let a = "+x.text+";", 0, api.ErrType)
		}
	}
}

// strewn makes numbers that are the same each time.
type strewn uint64

func (g *strewn) below(n int) int {
	*g = *g*6364136223846793005 + 1442695040888963407
	return int(uint64(*g) >> 33 % uint64(n))
}

func (g *strewn) of(words ...string) string {
	return words[g.below(len(words))]
}

// sheet is a rule set that is put down: the kinds that its rules shall have, by their places, in what order, and how seldom
// something wrong shall stand in it; never, if that is 0.
type sheet struct {
	*strewn
	kinds []int
	ranks []int
	wrong int
}

// name is one of a rule of that kind whose rank is less than that, or of an input; any other, if it shall be wrong.
func (s sheet) name(kind int, rank int) string {
	if s.wrong > 0 && s.below(s.wrong) == 0 {
		return s.of("nobody", "r"+strconv.Itoa(s.below(len(s.kinds)+1)))
	}
	l := [][]string{{"base", "bonus"}, {"5.00%"}, {"hours", "days"}, {"lead"}}[kind-1]
	for i, k := range s.kinds {
		if k == kind && s.ranks[i] < rank {
			l = append(l, "r"+strconv.Itoa(i), "r"+strconv.Itoa(i))
		}
	}
	return s.of(l...)
}

// expression is one of that kind.
func (s sheet) expression(kind int, rank int, depth int) string {
	if s.wrong > 0 && s.below(4*s.wrong) == 0 {
		kind = 1 + s.below(4)
	}
	in := func(kind int) string { return s.expression(kind, rank, depth+1) }
	way := s.below(8)
	switch {
	case depth > 3 || way < 3:
		return s.name(kind, rank)
	case way == 3:
		return "if " + in(api.Flag) + " then " + in(kind) + " else " + in(kind)
	case kind == api.Flag:
		compared := 1 + s.below(3)
		return "(" + in(compared) + ")" + s.of("<", "<=", "=", "<>", ">", ">=") + "(" + in(compared) + ")"
	case way == 4:
		return s.of("min(", "max(") + in(kind) + "," + in(kind) + ")"
	case kind == api.Rate:
		return "12.50%"
	case way == 5:
		return "-(" + in(kind) + ")"
	case way == 6 && kind == api.Money:
		return "(" + in(kind) + ")*(" + in(2+s.below(2)) + ")"
	}
	return "(" + in(kind) + ")" + s.of("+", "-") + "(" + in(kind) + ")"
}

// rules are that many, of expressions of all sorts.
func (g *strewn) rules(count int, wrong int) string {
	s := sheet{strewn: g, wrong: wrong}
	for i := range count {
		s.kinds = append(s.kinds, 1+g.below(4))
		s.ranks = slices.Insert(s.ranks, g.below(i+1), i)
	}
	var b strings.Builder
	for i, k := range s.kinds {
		word, name := "let", "r"+strconv.Itoa(i)
		if k == api.Money || wrong > 0 && g.below(4*wrong) == 0 {
			word = g.of("earn", "pretax", "post", "let")
		}
		if wrong > 0 && g.below(5*wrong) == 0 {
			name = g.of("base", "lead", "r0", "r1")
		}
		b.WriteString(word + " " + name + " = " + s.expression(k, s.ranks[i], 0) + ";\n")
	}
	return b.String()
}

// P11.1, P11.2: programs of all sorts.
func TestStrewn(t *testing.T) {
	g := strewn(111)
	var sorted, checked [api.ErrShut + 1]int
	for i := range 4500 {
		p := read(t, g.rules(1+g.below([]int{4, 12, 60}[i%3]), []int{0, 40, 200}[i/3%3]))
		s, c := hold(t, p)
		sorted[s]++
		checked[c]++
	}
	for _, e := range []api.Errno{api.OK, api.ErrThere, api.ErrCycle} {
		if sorted[e] < 50 {
			t.Errorf("Sort: %d times %d", sorted[e], e)
		}
	}
	for _, e := range []api.Errno{api.OK, api.ErrNone, api.ErrType} {
		if checked[e] < 100 {
			t.Errorf("Check: %d times %d", checked[e], e)
		}
	}
}

// P11.3: each rule hangs on none but those ahead of it: no name is one of a rule that is at its place in the order, or behind.
func TestNoneBehind(t *testing.T) {
	g := strewn(113)
	for range 1000 {
		p := read(t, g.rules(1+g.below(20), 0))
		l, _, e := order.Sort(p)
		if e != api.OK {
			t.Fatalf("Sort(%s): %d", told(p), e)
		}
		for k, at := range l {
			names := namesIn(p.Exprs, p.Rules[at].Root)
			for _, other := range l[k:] {
				if slices.Contains(names, p.Rules[other].Name) {
					t.Fatalf("Sort(%s) = %v: %d hangs on %d", told(p), l, at, other)
				}
			}
		}
	}
}

// P11.3: a rule that is put at the end, and on which nothing hangs, turns nothing of the others, also where these are at fault.
func TestOneMore(t *testing.T) {
	g := strewn(114)
	right, failed := 0, 0
	for i := range 900 {
		count := 1 + g.below(20)
		s := g.rules(count, []int{0, 0, 50}[i%3])
		p, some := read(t, s), "r"+strconv.Itoa(g.below(count))
		l, kinds, place, e := order.Check(p)
		sortedTo, sortPlace, sortErr := order.Sort(p)
		for _, x := range []string{"1", "nobody", "last", some, some + " + " + some + " + 1", "1 + 1.00"} {
			more := read(t, s+g.of("earn", "post", "let")+" last = "+x+";")
			hold(t, more)
			gotTo, gotPlace, gotErr := order.Sort(more)
			got, gotKinds, checkPlace, checkErr := order.Check(more)
			switch {
			case sortErr != api.OK:
				fails(t, more, sortPlace, sortErr)
				failed++
			case gotErr == api.ErrCycle && x == "last":
				fails(t, more, count, api.ErrCycle)
			case gotErr != api.OK || gotPlace != 0 || !slices.Equal(gotTo, append(slices.Clone(sortedTo), count)):
				t.Fatalf("Sort of one more, %q: %v, %d, %d; want %v", x, gotTo, gotPlace, gotErr, sortedTo)
			case e != api.OK:
				checkFails(t, more, place, e)
				failed++
			case checkErr != api.OK && checkPlace != count:
				t.Fatalf("Check of one more, %q: %d, %d", x, checkPlace, checkErr)
			case checkErr == api.OK && (!slices.Equal(got[:count], l) || !slices.Equal(gotKinds[:count], kinds)):
				t.Fatalf("Check of one more, %q: %v, %v; want %v, %v", x, got, gotKinds, l, kinds)
			case checkErr == api.OK:
				right++
			}
		}
	}
	if right < 500 || failed < 500 {
		t.Errorf("%d told without an error, %d with one", right, failed)
	}
}

// P1: expressions with very many names, in all rules, are told, and soon.
func TestLong(t *testing.T) {
	var all []string
	for i := range 60 {
		all = append(all, "1"+strings.Repeat(" + r"+strconv.Itoa(min(59, i+1)), 3000)+" + hours")
	}
	all[59] = strings.Repeat("1 + ", 100000) + "days"
	down := upTo(60)
	slices.Reverse(down)
	p := read(t, lets(all...))
	sortIs(t, p, down)
	checkIs(t, p, down, slices.Repeat([]int{api.Number}, 60))
	all[59] += " + r30"
	fails(t, read(t, lets(all...)), 0, api.ErrCycle)
}

// R1, R4: what is handed in stays as it was, up to what lies behind the lists, and is not kept; what is answered is new.
func TestNothingKept(t *testing.T) {
	p := read(t, "earn b = a; let a = base; let c = hours; let d = nobody;")
	was := tree.Program{Rules: slices.Clone(p.Rules), Exprs: slices.Clone(p.Exprs)}
	part := tree.Program{Rules: p.Rules[:3], Exprs: p.Exprs[:3]}
	for range 3 {
		sortIs(t, part, []int{1, 0, 2})
		sortIs(t, p, []int{1, 0, 2, 3})
		checkIs(t, part, []int{1, 0, 2}, []int{api.Money, api.Money, api.Number})
		checkFails(t, p, 3, api.ErrNone)
		sorted, _, _ := order.Sort(part)
		l, kinds, _, _ := order.Check(part)
		for _, list := range [][]int{sorted[:cap(sorted)], l[:cap(l)]} {
			for i := range list {
				list[i] = 77
			}
		}
		if !slices.Equal(kinds, []int{api.Money, api.Money, api.Number}) {
			t.Errorf("kinds, once the order is written over: %v", kinds)
		}
		clear(kinds)
	}
	if !slices.Equal(p.Rules, was.Rules) || !slices.Equal(p.Exprs, was.Exprs) {
		t.Errorf("%v, was %v", p, was)
	}
	p.Exprs[1].Name = "c"
	checkFails(t, part, 0, api.ErrType)
	sortIs(t, part, []int{2, 1, 0})
	p.Exprs[2].Name = "b"
	fails(t, part, 0, api.ErrCycle)
}
