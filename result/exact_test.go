package result_test

import (
	"fmt"
	"math/big"
	"slices"
	"testing"

	"paymaster/api"
	"paymaster/garnish"
	"paymaster/result"
	"paymaster/show"
	"paymaster/tree"
	"paymaster/value"
	"paymaster/withhold"
)

// A second telling, by other means than the package's: sums of numbers of any size, kind by kind; what is withheld as what is
// due of all that came by now, less what the year tells; creditors by what is above the protected amount alone.

// exact is n, in sums of any size.
func exact(n int) *big.Int { return big.NewInt(int64(n)) }

// isWithin: is a number not farther from 0 than 2 to that?
func isWithin(n *big.Int, bits uint) bool {
	return n.CmpAbs(new(big.Int).Lsh(exact(1), bits)) <= 0
}

// total is the sum of an extra, and of the values of all rules of a Kind.
func total(p tree.Program, values []int, kind string, extra int) *big.Int {
	n := exact(extra)
	for i, r := range p.Rules {
		if r.Kind == kind {
			n.Add(n, exact(values[i]))
		}
	}
	return n
}

// linesOf are the lines of a program whose rules have those values.
func linesOf(p tree.Program, values []int) []result.Line {
	var l []result.Line
	for _, kind := range []string{"earn", "pretax", "post"} {
		for i, r := range p.Rules {
			if r.Kind == kind {
				l = append(l, result.Line{Kind: r.Kind, Name: r.Name, Amount: values[i]})
			}
		}
	}
	place := func(l result.Line) int {
		return slices.IndexFunc(p.Rules, func(r tree.Rule) bool { return r.Name == l.Name })
	}
	slices.SortFunc(l, func(a, b result.Line) int { return place(a) - place(b) })
	return l
}

// exactLines is the answer that P16.1 asks for.
func exactLines(p tree.Program, in value.Inputs) ([]result.Line, result.Sums, api.Errno) {
	values, _, e := value.All(p, in)
	if e != api.OK {
		return nil, result.Sums{}, e
	}
	l := linesOf(p, values)
	if slices.ContainsFunc(l, func(l result.Line) bool { return !isWithin(exact(l.Amount), 45) }) {
		return nil, result.Sums{}, api.ErrOver
	}
	sum := func(kind string) int { return int(total(p, values, kind, 0).Int64()) }
	return l, result.Sums{Gross: sum("earn"), Pretax: sum("pretax"), Post: sum("post")}, api.OK
}

// less is a list of what is due, less a year's, of which an empty one is noughts.
func less(due []int, was []int) []int {
	var l []int
	for i, n := range due {
		if len(was) > 0 {
			n -= was[i]
		}
		l = append(l, n)
	}
	return l
}

// cut is n, or, if it is farther from 0 than any number that counts, one that is too far on that side.
func cut(n *big.Int) int {
	if !isWithin(n, 60) {
		return n.Sign() * (1 << 60)
	}
	return int(n.Int64())
}

// exactWork is the answer that P16.2 asks for.
func exactWork(p result.Plan, in value.Inputs, extra result.Sums, y withhold.Year, l []api.Order) (result.Result, withhold.Year, api.Errno) {
	var none result.Result
	var year withhold.Year
	if p.Protected < 0 || !isWithin(exact(p.Protected), 40) || !withhold.Right(p.S) {
		return none, year, api.ErrArg
	}
	lines, raw, e := exactLines(p.P, in)
	if e != api.OK {
		return none, year, e
	}
	for _, n := range []int{extra.Gross, extra.Pretax, extra.Post} {
		if !isWithin(exact(n), 45) {
			return none, year, api.ErrOver
		}
	}
	values, _, _ := value.All(p.P, in)
	gross, pretax := total(p.P, values, "earn", extra.Gross), total(p.P, values, "pretax", extra.Pretax)
	left := new(big.Int).Sub(gross, pretax)
	r := result.Result{Lines: lines, Raw: raw, Extra: extra, Taxable: int(left.Int64())}
	if _, _, e := withhold.Step(p.S, y, r.Taxable, int(gross.Int64())); e != api.OK {
		return none, year, e
	}
	year, _ = withhold.Due(p.S, y.Taxable+r.Taxable, y.Base+int(gross.Int64()))
	r.Tax, r.Paid, r.Owed = year.Tax-y.Tax, less(year.Paid, y.Paid), less(year.Owed, y.Owed)
	for _, n := range append(slices.Clone(r.Paid), r.Tax) {
		left.Sub(left, exact(n))
	}
	e = exactPayOut(&r, left, total(p.P, values, "post", extra.Post), p.Protected, l)
	if e != api.OK {
		return none, withhold.Year{}, e
	}
	return r, year, api.OK
}

// exactPayOut fills in what comes of what is left, case by case.
func exactPayOut(r *result.Result, left *big.Int, post *big.Int, protected int, l []api.Order) api.Errno {
	taken := post
	switch {
	case post.Sign() <= 0:
	case left.Sign() <= 0:
		taken = exact(0)
	case post.Cmp(left) > 0:
		taken = left
	}
	r.Taken, r.Held = int(taken.Int64()), int(new(big.Int).Sub(post, taken).Int64())
	left = new(big.Int).Sub(left, taken)
	if _, e := garnish.Serve(cut(left), protected, l); e != api.OK {
		return e
	}
	above := max(int(left.Int64())-protected, 0)
	r.Garnished, _ = garnish.Serve(above, 0, l)
	r.Net = int(left.Int64())
	for _, n := range r.Garnished {
		r.Net -= n
	}
	if r.Net < 0 {
		r.Short, r.Net = -r.Net, 0
	}
	return api.OK
}

// sameYear: a list that is nil and one that is empty are the same.
func sameYear(a, b withhold.Year) bool {
	return a.Taxable == b.Taxable && a.Base == b.Base && a.Tax == b.Tax && slices.Equal(a.Paid, b.Paid) && slices.Equal(a.Owed, b.Owed)
}

func same(a, b result.Result) bool {
	return slices.Equal(a.Lines, b.Lines) && a.Raw == b.Raw && a.Extra == b.Extra && a.Taxable == b.Taxable && a.Tax == b.Tax &&
		a.Taken == b.Taken && a.Held == b.Held && a.Net == b.Net && a.Short == b.Short &&
		slices.Equal(a.Paid, b.Paid) && slices.Equal(a.Owed, b.Owed) && slices.Equal(a.Garnished, b.Garnished)
}

// told is p as a text, be it one that has none, and however long.
func told(p tree.Program) string {
	s, e := show.Text(p)
	if e != api.OK {
		s = fmt.Sprint(p)
	}
	return fmt.Sprintf("%.600s", s)
}

// linesAre: Lines answers that, and changes nothing.
func linesAre(t *testing.T, p tree.Program, in value.Inputs, l []result.Line, s result.Sums, e api.Errno) {
	t.Helper()
	before := fmt.Sprint(p)
	if got, sums, f := result.Lines(p, in); !slices.Equal(got, l) || sums != s || f != e {
		t.Fatalf("Lines(%s, %v) = %v, %v, %d; want %v, %v, %d", told(p), in, got, sums, f, l, s, e)
	}
	if fmt.Sprint(p) != before {
		t.Fatalf("the program changed: %v, was %s", p, before)
	}
}

// holdLines holds Lines against the second telling, and answers the error that came.
func holdLines(t *testing.T, p tree.Program, in value.Inputs) api.Errno {
	t.Helper()
	l, s, e := exactLines(p, in)
	linesAre(t, p, in, l, s, e)
	return e
}

// worksTo: Work answers that, and changes nothing.
func worksTo(t *testing.T, c call, r result.Result, y withhold.Year, e api.Errno) {
	t.Helper()
	before := fmt.Sprint(c)
	if got, z, f := c.work(); !same(got, r) || !sameYear(z, y) || f != e {
		t.Fatalf("Work(%s, %v) = %+v, %v, %d; want %+v, %v, %d", told(c.p.P), c, got, z, f, r, y, e)
	}
	if fmt.Sprint(c) != before {
		t.Fatalf("what was handed in changed: %v, was %s", c, before)
	}
}

// fails: Work answers that error, and nothing else.
func fails(t *testing.T, c call, e api.Errno) {
	t.Helper()
	worksTo(t, c, result.Result{}, withhold.Year{}, e)
}

// hold holds Work against the second telling, and against what follows of it.
func hold(t *testing.T, c call) (result.Result, withhold.Year, api.Errno) {
	t.Helper()
	r, y, e := exactWork(c.p, c.in, c.extra, c.y, c.l)
	worksTo(t, c, r, y, e)
	if e == api.OK {
		follows(t, c, r)
	}
	return r, y, e
}

// follows holds r against P16.3.
func follows(t *testing.T, c call, r result.Result) {
	t.Helper()
	net := exact(r.Short)
	for _, n := range []int{r.Raw.Gross, r.Extra.Gross, -r.Raw.Pretax, -r.Extra.Pretax, -r.Taken} {
		net.Add(net, exact(n))
	}
	for _, n := range slices.Concat([]int{r.Tax}, r.Paid, r.Garnished) {
		net.Sub(net, exact(n))
	}
	if net.Cmp(exact(r.Net)) != 0 || r.Net < 0 || r.Short < 0 || r.Net > 0 && r.Short > 0 {
		t.Fatalf("Work(%s, %v): %+v, of a net of %s", told(c.p.P), c, r, net)
	}
	ahead := r.Net - r.Short
	for _, n := range r.Garnished {
		ahead += n
	}
	if ahead >= c.p.Protected && r.Net < c.p.Protected || ahead < c.p.Protected && ahead != r.Net-r.Short {
		t.Fatalf("Work(%s, %v): %+v, of %d ahead of creditors", told(c.p.P), c, r, ahead)
	}
	if taken := r.Taken + r.Held; taken != r.Raw.Post+r.Extra.Post || r.Held < 0 || r.Held > 0 && r.Net > 0 {
		t.Fatalf("Work(%s, %v): %+v, of a Post of %d", told(c.p.P), c, r, taken)
	}
}
