package value_test

import (
	"fmt"
	"math/big"
	"slices"
	"testing"

	"paymaster/api"
	"paymaster/check"
	"paymaster/order"
	"paymaster/show"
	"paymaster/tree"
	"paymaster/value"
)

// A second telling, by other means than Expr's and All's: values by going down the parts, as numbers of any size; kinds by asking
// layer 10 of each part; a rule's worth by going down its expression wherever its name stands, not through an order.

// teller tells values of a program; nil is one that is too much.
type teller struct {
	p     tree.Program
	binds []check.Bind
	named func(name string) *big.Int
}

func number(n int) *big.Int {
	return big.NewInt(int64(n))
}

func truth(is bool) *big.Int {
	if is {
		return number(1)
	}
	return number(0)
}

func isAmount(n *big.Int) bool {
	return n.CmpAbs(number(api.Most)) <= 0
}

func (s teller) value(i int) *big.Int {
	n := s.unbounded(s.p.Exprs[i])
	if n == nil || !isAmount(n) {
		return nil
	}
	return n
}

// unbounded is what x is worked out to, be it an amount or not.
func (s teller) unbounded(x tree.Expr) *big.Int {
	switch x.Op {
	case "whole", "amount", "rate":
		return number(x.Value)
	case "name":
		return s.named(x.Name)
	case "neg":
		return s.two(x, number(0), s.value(x.A))
	case "if":
		a := s.value(x.A)
		if a == nil {
			return nil
		}
		if a.Sign() != 0 {
			return s.value(x.B)
		}
		return s.value(x.C)
	}
	return s.two(x, s.value(x.A), s.value(x.B))
}

func (s teller) two(x tree.Expr, a *big.Int, b *big.Int) *big.Int {
	if a == nil || b == nil {
		return nil
	}
	n, side := new(big.Int), a.Cmp(b)
	switch x.Op {
	case "+":
		return n.Add(a, b)
	case "-", "neg":
		return n.Sub(a, b)
	case "*":
		if n.Mul(a, b); s.kind(x.A) == api.Rate || s.kind(x.B) == api.Rate {
			return toEven(n)
		}
		return n
	case "min", "max":
		if (side < 0) == (x.Op == "min") {
			return a
		}
		return b
	}
	return truth(slices.Contains(map[string][]int{"<": {-1}, "<=": {-1, 0}, "=": {0}, "<>": {-1, 1}, ">": {1}, ">=": {0, 1}}[x.Op], side))
}

func (s teller) kind(i int) int {
	k, _, _ := check.Kind(s.p, i, s.binds)
	return k
}

// toEven is n by 10,000, to the nearest whole number, of two as near to the even one.
func toEven(n *big.Int) *big.Int {
	below, left := new(big.Int).DivMod(n, number(10000), new(big.Int))
	if left.Cmp(number(5000)) > 0 || left.Cmp(number(5000)) == 0 && below.Bit(0) == 1 {
		below.Add(below, number(1))
	}
	return below
}

func isOfKind(w value.Worth) bool {
	switch w.Kind {
	case 2:
		return w.Value >= 0 && w.Value <= 10000
	case 4:
		return w.Value >= 0 && w.Value <= 1
	}
	return isAmount(number(w.Value))
}

// exactExpr is the answer that P12.1 asks for.
func exactExpr(p tree.Program, root int, l []value.Worth) (int, api.Errno) {
	var binds []check.Bind
	for _, w := range l {
		binds = append(binds, check.Bind{Name: w.Name, Kind: w.Kind})
	}
	if _, _, e := check.Kind(p, root, binds); e != api.OK {
		return 0, e
	}
	for _, w := range l {
		if !isOfKind(w) {
			return 0, api.ErrOver
		}
	}
	named := func(name string) *big.Int {
		return number(l[slices.IndexFunc(l, func(w value.Worth) bool { return w.Name == name })].Value)
	}
	n := teller{p, binds, named}.value(root)
	if n == nil {
		return 0, api.ErrOver
	}
	return int(n.Int64()), api.OK
}

// exactAll is the answer that P12.2 asks for.
func exactAll(p tree.Program, in value.Inputs) ([]int, int, api.Errno) {
	places, kinds, at, e := order.Check(p)
	if e != api.OK {
		return nil, at, e
	}
	known := map[string]*big.Int{"base": number(in.Base), "bonus": number(in.Bonus), "hours": number(in.Hours), "days": number(in.Days), "lead": truth(in.Lead)}
	for _, n := range known {
		if !isAmount(n) {
			return nil, 0, api.ErrOver
		}
	}
	binds := []check.Bind{{Name: "base", Kind: 1}, {Name: "bonus", Kind: 1}, {Name: "hours", Kind: 3}, {Name: "days", Kind: 3}, {Name: "lead", Kind: 4}}
	roots := map[string]int{}
	for i, r := range p.Rules {
		binds = append(binds, check.Bind{Name: r.Name, Kind: kinds[i]})
		roots[r.Name] = r.Root
	}
	s := teller{p: p, binds: binds}
	s.named = func(name string) *big.Int {
		if _, there := known[name]; !there {
			known[name] = s.value(roots[name])
		}
		return known[name]
	}
	values := make([]int, len(p.Rules))
	for _, i := range places {
		n := s.named(p.Rules[i].Name)
		if n == nil {
			return nil, i, api.ErrOver
		}
		values[i] = int(n.Int64())
	}
	return values, 0, api.OK
}

// told is p as a text, be it one that has none, and however long.
func told(p tree.Program) string {
	s, e := show.Text(p)
	if e != api.OK {
		s = fmt.Sprint(p)
	}
	return fmt.Sprintf("%.600s", s)
}

// exprIs: Expr answers that.
func exprIs(t *testing.T, p tree.Program, root int, l []value.Worth, n int, e api.Errno) {
	t.Helper()
	if got, gotErr := value.Expr(p, root, l); got != n || gotErr != e {
		t.Fatalf("Expr(%s, %d, %.300s) = %d, %d; want %d, %d", told(p), root, fmt.Sprint(l), got, gotErr, n, e)
	}
}

// allIs: All answers that.
func allIs(t *testing.T, p tree.Program, in value.Inputs, values []int, at int, e api.Errno) {
	t.Helper()
	if got, gotPlace, gotErr := value.All(p, in); !slices.Equal(got, values) || gotPlace != at || gotErr != e {
		t.Fatalf("All(%s, %v) = %v, %d, %d; want %v, %d, %d", told(p), in, got, gotPlace, gotErr, values, at, e)
	}
}

// holdExpr holds Expr against the second telling, and answers the error that came.
func holdExpr(t *testing.T, p tree.Program, root int, l []value.Worth) api.Errno {
	t.Helper()
	n, e := exactExpr(p, root, l)
	exprIs(t, p, root, l, n, e)
	return e
}

// holdAll holds All against the second telling, and answers the error that came.
func holdAll(t *testing.T, p tree.Program, in value.Inputs) api.Errno {
	t.Helper()
	values, at, e := exactAll(p, in)
	allIs(t, p, in, values, at, e)
	return e
}
