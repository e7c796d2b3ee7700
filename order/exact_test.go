package order_test

import (
	"fmt"
	"slices"
	"testing"

	"paymaster/api"
	"paymaster/check"
	"paymaster/order"
	"paymaster/show"
	"paymaster/tree"
)

// A second telling, by other means than Sort's and Check's: names by going down the parts, cycles by all ways from rule to rule,
// an order by what it has to be, kinds by asking those that a rule hangs on, not by going through an order.

// inputs are the five, in order.
func inputs() []check.Bind {
	return []check.Bind{{Name: "base", Kind: 1}, {Name: "bonus", Kind: 1}, {Name: "hours", Kind: 3}, {Name: "days", Kind: 3}, {Name: "lead", Kind: 4}}
}

// namesIn are the names that the Expr at i of a program that has a text is made of.
func namesIn(exprs []tree.Expr, i int) []string {
	switch x := exprs[i]; x.Op {
	case "whole", "amount", "rate":
		return nil
	case "name":
		return []string{x.Name}
	case "neg":
		return namesIn(exprs, x.A)
	case "if":
		return slices.Concat(namesIn(exprs, x.A), namesIn(exprs, x.B), namesIn(exprs, x.C))
	default:
		return slices.Concat(namesIn(exprs, x.A), namesIn(exprs, x.B))
	}
}

// graph tells of two rules by their places whether the first one hangs on the second one.
type graph [][]bool

// hanging is the graph of a program that has a text.
func hanging(p tree.Program) graph {
	var g graph
	for _, r := range p.Rules {
		names := namesIn(p.Exprs, r.Root)
		var row []bool
		for _, other := range p.Rules {
			row = append(row, slices.Contains(names, other.Name))
		}
		g = append(g, row)
	}
	return g
}

// ways is the graph of all ways of g, of one step and more.
func (g graph) ways() graph {
	var w graph
	for _, row := range g {
		w = append(w, slices.Clone(row))
	}
	for by := range w {
		for from := range w {
			for to := range w {
				w[from][to] = w[from][to] || w[from][by] && w[by][to]
			}
		}
	}
	return w
}

// stuck is the least place of a rule that hangs, over whatever many, on one that hangs on itself; false, if there is no such one.
func (g graph) stuck() (int, bool) {
	w := g.ways()
	for i := range w {
		for j := range w {
			if w[j][j] && (i == j || w[i][j]) {
				return i, true
			}
		}
	}
	return 0, false
}

// isLeast: are these all places, each behind all that it hangs on, and is each lesser one behind it kept there by one that is not ahead of it?
func (g graph) isLeast(l []int) bool {
	if len(l) != len(g) {
		return false
	}
	var ahead []int
	for _, at := range l {
		if at < 0 || at >= len(g) || slices.Contains(ahead, at) {
			return false
		}
		for lesser := range at + 1 {
			free := true
			for j, on := range g[lesser] {
				free = free && (!on || slices.Contains(ahead, j))
			}
			if !slices.Contains(ahead, lesser) && free != (lesser == at) {
				return false
			}
		}
		ahead = append(ahead, at)
	}
	return true
}

// taken is the place of the first rule whose Name is an input's, or that of one ahead; false, if there is no such one.
func taken(rules []tree.Rule) (int, bool) {
	for i, r := range rules {
		same := func(other tree.Rule) bool { return other.Name == r.Name }
		if slices.Contains([]string{"base", "bonus", "hours", "days", "lead"}, r.Name) || slices.ContainsFunc(rules[:i], same) {
			return i, true
		}
	}
	return 0, false
}

// asked are the kinds of the rules of a program that has an order, as far as they have been asked for.
type asked struct {
	p     tree.Program
	g     graph
	kinds map[int]int
}

// kind is that of the rule at i, or its error, if those that it hangs on have one.
func (a asked) kind(i int) (int, api.Errno) {
	if k, is := a.kinds[i]; is {
		return k, api.OK
	}
	l := inputs()
	for j, on := range a.g[i] {
		if on {
			k, _ := a.kind(j)
			l = append(l, check.Bind{Name: a.p.Rules[j].Name, Kind: k})
		}
	}
	k, _, e := check.Kind(a.p, a.p.Rules[i].Root, l)
	if e == api.OK && k != api.Money && a.p.Rules[i].Kind != "let" {
		return 0, api.ErrType
	}
	if e == api.OK {
		a.kinds[i] = k
	}
	return k, e
}

// hold holds Sort and Check of p against the second telling, and answers the errors that came.
func hold(t *testing.T, p tree.Program) (api.Errno, api.Errno) {
	t.Helper()
	if _, e := show.Text(p); e != api.OK {
		fails(t, p, 0, api.ErrArg)
		return api.ErrArg, api.ErrArg
	}
	if at, is := taken(p.Rules); is {
		fails(t, p, at, api.ErrThere)
		return api.ErrThere, api.ErrThere
	}
	g := hanging(p)
	if at, is := g.stuck(); is {
		fails(t, p, at, api.ErrCycle)
		return api.ErrCycle, api.ErrCycle
	}
	l, at, e := order.Sort(p)
	if !g.isLeast(l) || at != 0 || e != api.OK {
		t.Fatalf("Sort(%s) = %v, %d, %d", told(p), l, at, e)
	}
	a := asked{p, g, map[int]int{}}
	var kinds []int
	for _, i := range l {
		if _, e := a.kind(i); e != api.OK {
			checkFails(t, p, i, e)
			return api.OK, e
		}
	}
	for i := range l {
		kinds = append(kinds, a.kinds[i])
	}
	checkIs(t, p, l, kinds)
	return api.OK, api.OK
}

// told is p as a text, be it one that has none, and however long.
func told(p tree.Program) string {
	s, e := show.Text(p)
	if e != api.OK {
		s = fmt.Sprint(p)
	}
	return fmt.Sprintf("%.600s", s)
}

// sortIs: Sort answers that order.
func sortIs(t *testing.T, p tree.Program, l []int) {
	t.Helper()
	if got, at, e := order.Sort(p); !slices.Equal(got, l) || at != 0 || e != api.OK {
		t.Fatalf("Sort(%s) = %v, %d, %d; want %v", told(p), got, at, e, l)
	}
}

// checkIs: Check answers that order, and these kinds.
func checkIs(t *testing.T, p tree.Program, l []int, kinds []int) {
	t.Helper()
	if got, k, at, e := order.Check(p); !slices.Equal(got, l) || !slices.Equal(k, kinds) || at != 0 || e != api.OK {
		t.Fatalf("Check(%s) = %v, %v, %d, %d; want %v, %v", told(p), got, k, at, e, l, kinds)
	}
}

// fails: Sort and Check answer that error, and nothing else.
func fails(t *testing.T, p tree.Program, place int, e api.Errno) {
	t.Helper()
	if l, at, got := order.Sort(p); len(l) != 0 || at != place || got != e {
		t.Fatalf("Sort(%s) = %v, %d, %d; want %d, %d", told(p), l, at, got, place, e)
	}
	checkFails(t, p, place, e)
}

// checkFails: Check answers that error, and nothing else.
func checkFails(t *testing.T, p tree.Program, place int, e api.Errno) {
	t.Helper()
	if l, k, at, got := order.Check(p); len(l) != 0 || len(k) != 0 || at != place || got != e {
		t.Fatalf("Check(%s) = %v, %v, %d, %d; want %d, %d", told(p), l, k, at, got, place, e)
	}
}
