package withhold_test

import (
	"fmt"
	"math/big"
	"slices"
	"testing"

	"paymaster/api"
	"paymaster/withhold"
)

// A second telling, by other means than the package's: all that came is kept as it came, and whatever is due of it is
// reckoned anew, without bounds, as the floor of a fraction; a table is gone through from its last row on.

// month is what came in one call.
type month struct{ taxable, base int }

// share is a rate's part of what is above from, but not above to.
func share(amount, from, to *big.Int, bps int) int {
	part := new(big.Int).Set(amount)
	if part.Cmp(to) > 0 {
		part.Set(to)
	}
	if part.Sub(part, from).Sign() <= 0 {
		return 0
	}
	part.Mul(part, whole(bps))
	return int(part.Div(part, whole(10000)).Int64())
}

func whole(n int) *big.Int { return big.NewInt(int64(n)) }

// exactDue is the year of all that came in months.
func exactDue(s withhold.Scheme, came ...month) withhold.Year {
	taxable, base := new(big.Int), new(big.Int)
	for _, m := range came {
		taxable.Add(taxable, whole(m.taxable))
		base.Add(base, whole(m.base))
	}
	y := withhold.Year{Taxable: int(taxable.Int64()), Base: int(base.Int64())}
	end := whole(api.Most)
	for _, row := range slices.Backward(s.Rows) {
		y.Tax += share(taxable, whole(row.Above), end, row.Rate)
		end = whole(row.Above)
	}
	for _, f := range s.Funds {
		y.Paid = append(y.Paid, share(base, whole(0), whole(f.Ceiling), f.Rate))
		y.Owed = append(y.Owed, share(base, whole(0), whole(f.Ceiling), f.Employer))
	}
	return y
}

// exactCame is what came in the last of months: what is due of all, less what was due ahead of it.
func exactCame(s withhold.Scheme, came ...month) withhold.Year {
	now, then := exactDue(s, came...), exactDue(s, came[:len(came)-1]...)
	last := came[len(came)-1]
	now.Taxable, now.Base = last.taxable, last.base
	now.Tax -= then.Tax
	for i := range s.Funds {
		now.Paid[i] -= then.Paid[i]
		now.Owed[i] -= then.Owed[i]
	}
	return now
}

// exactError is the one named first, of a step from a year.
func exactError(s withhold.Scheme, y withhold.Year, m month) api.Errno {
	far := new(big.Int).Lsh(whole(1), 50)
	sum := func(a, b int) *big.Int { return new(big.Int).Add(whole(a), whole(b)) }
	for _, n := range []*big.Int{whole(y.Taxable), whole(m.taxable), whole(y.Base), whole(m.base), sum(y.Taxable, m.taxable), sum(y.Base, m.base)} {
		if n.CmpAbs(far) > 0 {
			return api.ErrOver
		}
	}
	for _, l := range [][]int{y.Paid, y.Owed} {
		if len(l) > 0 && len(l) != len(s.Funds) {
			return api.ErrArg
		}
	}
	return api.OK
}

// same: are two years the same? A list that is nil and one that is empty are.
func same(a, b withhold.Year) bool {
	return a.Taxable == b.Taxable && a.Base == b.Base && a.Tax == b.Tax && slices.Equal(a.Paid, b.Paid) && slices.Equal(a.Owed, b.Owed)
}

// isDue holds the answer of Due against the second telling, and sees that nothing changed.
func isDue(t *testing.T, s withhold.Scheme, taxable, base int) {
	t.Helper()
	before, want := fmt.Sprint(s), exactDue(s, month{taxable, base})
	if y, e := withhold.Due(s, taxable, base); !same(y, want) || e != api.OK {
		t.Fatalf("Due(%v, %d, %d): %v, %d, not %v", s, taxable, base, y, e, want)
	}
	if fmt.Sprint(s) != before {
		t.Fatalf("the scheme changed: %v, was %v", s, before)
	}
}

// isNoDue: Due answers that error, and nothing else.
func isNoDue(t *testing.T, s withhold.Scheme, taxable, base int, f api.Errno) {
	t.Helper()
	before := fmt.Sprint(s)
	if y, e := withhold.Due(s, taxable, base); !same(y, withhold.Year{}) || e != f {
		t.Errorf("Due(%v, %d, %d): %v, %d, not none, %d", s, taxable, base, y, e, f)
	}
	if fmt.Sprint(s) != before {
		t.Errorf("the scheme changed: %v, was %v", s, before)
	}
}

// isNoStep: Step answers that error, and nothing else.
func isNoStep(t *testing.T, s withhold.Scheme, y withhold.Year, taxable, base int, f api.Errno) {
	t.Helper()
	before := fmt.Sprint(s, y)
	if z, m, e := withhold.Step(s, y, taxable, base); !same(z, withhold.Year{}) || !same(m, withhold.Year{}) || e != f {
		t.Errorf("Step(%v, %v, %d, %d): %v, %v, %d, not none, %d", s, y, taxable, base, z, m, e, f)
	}
	if fmt.Sprint(s, y) != before {
		t.Errorf("the scheme or the year changed: %v, %v, were %v", s, y, before)
	}
}

// play is a year, as the package tells it, and all that came in it.
type play struct {
	s    withhold.Scheme
	y    withhold.Year
	came []month
}

// step takes a month, which is held against the second telling; with an error the year goes on as it was.
func (g play) step(t *testing.T, taxable, base int) play {
	t.Helper()
	m := month{taxable, base}
	if f := exactError(g.s, g.y, m); f != api.OK {
		isNoStep(t, g.s, g.y, taxable, base, f)
		return g
	}
	before := fmt.Sprint(g.s, g.y)
	came := append(slices.Clone(g.came), m)
	y, what, e := withhold.Step(g.s, g.y, taxable, base)
	if !same(y, exactDue(g.s, came...)) || !same(what, exactCame(g.s, came...)) || e != api.OK {
		t.Fatalf("Step(%v, %v, %d, %d): %v, %v, %d, not %v, %v", g.s, g.y, taxable, base, y, what, e, exactDue(g.s, came...), exactCame(g.s, came...))
	}
	if fmt.Sprint(g.s, g.y) != before {
		t.Fatalf("the scheme or the year changed: %v, %v, were %v", g.s, g.y, before)
	}
	return play{g.s, y, came}
}

// Strewn schemes and months, of all sizes, with amounts near rows' edges, ceilings and bounds.

type strewn uint64

func (g *strewn) below(n int) int {
	*g = *g*6364136223846793005 + 1442695040888963407
	return int(*g>>33) % n
}

func (g *strewn) rate() int {
	switch g.below(5) {
	case 0:
		return 0
	case 1:
		return 10000
	}
	return g.below(10001)
}

// amount is from 0 on, of a size that is strewn, at most 2^50.
func (g *strewn) amount() int {
	return (g.below(1<<30)<<20 + g.below(1<<20) + g.below(2)) >> g.below(50)
}

func (g *strewn) scheme() withhold.Scheme {
	s := withhold.Scheme{Rows: []api.Row{{Above: 0, Rate: g.rate()}}}
	for range g.below(12) {
		s.Rows = append(s.Rows, api.Row{Above: s.Rows[len(s.Rows)-1].Above + 1 + g.amount(), Rate: g.rate()})
	}
	for range g.below(7) {
		f := withhold.Fund{Rate: g.rate(), Employer: g.rate(), Ceiling: g.amount()}
		switch g.below(6) {
		case 0:
			f.Ceiling = 0
		case 1:
			f.Ceiling = api.Most
		}
		s.Funds = append(s.Funds, f)
	}
	return s
}

// more is what may come to a sum that is so far: now and then up to an edge, or all of it back.
func (g *strewn) more(far int, edges []int) int {
	switch g.below(8) {
	case 0:
		return -far
	case 1:
		return 0
	case 2, 3:
		return edges[g.below(len(edges))] - far + g.below(3) - 1
	case 4:
		return -g.amount()
	}
	return g.amount()
}

func edgesOf(s withhold.Scheme) (rows []int, ceilings []int) {
	for _, row := range s.Rows {
		rows = append(rows, row.Above)
	}
	ceilings = append(ceilings, 0)
	for _, f := range s.Funds {
		ceilings = append(ceilings, min(f.Ceiling, 1<<50))
	}
	return append(rows, 1<<50, -1<<50), append(ceilings, 1<<50, -1<<50)
}

// P14.1 to P14.3: strewn years of strewn schemes, all told as the second telling tells them.
func TestStrewnYears(t *testing.T) {
	g := strewn(14)
	for range 3000 {
		p := play{s: g.scheme()}
		rows, ceilings := edgesOf(p.s)
		for range 1 + g.below(20) {
			p = p.step(t, g.more(p.y.Taxable, rows), g.more(p.y.Base, ceilings))
			isDue(t, p.s, p.y.Taxable, p.y.Base)
		}
	}
}

// P14.1: strewn amounts, at and about each edge of a strewn scheme.
func TestStrewnDues(t *testing.T) {
	g := strewn(1)
	for range 2000 {
		s := g.scheme()
		rows, ceilings := edgesOf(s)
		for off := -1; off <= 1; off++ {
			for i := range max(len(rows), len(ceilings)) {
				taxable, base := rows[i%len(rows)]+off, ceilings[i%len(ceilings)]+off
				isDue(t, s, max(-1<<50, min(taxable, 1<<50)), max(-1<<50, min(base, 1<<50)))
			}
		}
	}
}
