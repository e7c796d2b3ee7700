package withhold_test

import (
	"fmt"
	"math"
	"slices"
	"testing"

	"paymaster/api"
	"paymaster/withhold"
)

const (
	near = 1 << 50
	far  = near + 1
)

var (
	flat  = []api.Row{{Above: 0, Rate: 1000}}
	steps = []api.Row{{Above: 0, Rate: 0}, {Above: 100000, Rate: 2000}, {Above: 300000, Rate: 4250}}
)

// fund is one of a Rate, an Employer's rate and a Ceiling.
func fund(bps, employer, ceiling int) withhold.Fund {
	return withhold.Fund{Rate: bps, Employer: employer, Ceiling: ceiling}
}

func scheme(rows []api.Row, funds ...withhold.Fund) withhold.Scheme {
	return withhold.Scheme{Rows: rows, Funds: funds}
}

// many are so many funds, each other than the ones ahead of it.
func many(n int) []withhold.Fund {
	var l []withhold.Fund
	for i := range n {
		l = append(l, fund(100*i+1, 10000-7*i, 1000*i))
	}
	return l
}

// tables are right ones, of 1 to 12 rows.
func tables() [][]api.Row {
	l := [][]api.Row{flat, steps, {{Rate: 0}}, {{Rate: 10000}}, {{Rate: 3333}, {Above: 1, Rate: 6667}}, {{Rate: 1}, {Above: api.Most, Rate: 10000}}}
	var long []api.Row
	for i := range 12 {
		long = append(long, api.Row{Above: 777 * i, Rate: i * 7919 % 10001})
	}
	return append(l, long, long[:11])
}

// wrongTables are such as layer 5 says are not right.
func wrongTables() [][]api.Row {
	return [][]api.Row{
		nil, {}, make([]api.Row, 13), {{Above: 1}}, {{Above: -1}}, {{Rate: -1}}, {{Rate: 10001}}, {{}, {Above: 0}}, {{}, {Above: 5}, {Above: 5}}, {{}, {Above: 5}, {Above: 4}},
		{{}, {Above: 5, Rate: 10001}}, {{}, {Above: 5, Rate: -1}}, {{Above: math.MinInt}}, {{Above: -5}, {Above: 0}}, {{Rate: math.MinInt}}, {{Rate: api.Most}},
	}
}

// wrongFunds are each wrong in one of its numbers, or in several.
func wrongFunds() []withhold.Fund {
	l := []withhold.Fund{fund(-1, -1, -1), fund(10001, 10001, 5), fund(math.MinInt, 0, math.MinInt)}
	for _, bps := range []int{math.MinInt, -api.Most, -10000, -1, 10001, 20000, 1 << 32, api.Most} {
		l = append(l, fund(bps, 0, 0), fund(0, bps, 0), fund(bps, 10000, api.Most), fund(10000, bps, api.Most))
	}
	for _, ceiling := range []int{-1, -100, -near, -far, -1 << 32, -api.Most, math.MinInt} {
		l = append(l, fund(0, 0, ceiling), fund(1000, 2000, ceiling))
	}
	return l
}

// wrongSchemes are wrong in their table, in the number of their funds, or in one of these, wherever it stands.
func wrongSchemes() []withhold.Scheme {
	var l []withhold.Scheme
	for _, rows := range wrongTables() {
		l = append(l, scheme(rows), scheme(rows, many(6)...))
	}
	for _, n := range []int{7, 8, 12, 13, 100} {
		l = append(l, scheme(flat, many(n)[:n]...), scheme(nil, make([]withhold.Fund, n)...), scheme(flat, make([]withhold.Fund, n)...))
	}
	for _, f := range wrongFunds() {
		l = append(l, scheme(steps, f))
		for i := range 6 {
			funds := many(6)
			funds[i] = f
			l = append(l, scheme(flat, funds...))
		}
	}
	return l
}

// P14.1: Right, of right tables and of 0 to 6 funds.
func TestRight(t *testing.T) {
	for _, rows := range tables() {
		for n := range 7 {
			if s := scheme(rows, many(n)...); !withhold.Right(s) {
				t.Errorf("Right(%v): false", s)
			}
		}
	}
	for _, f := range []withhold.Fund{{}, fund(0, 0, api.Most), fund(10000, 10000, 0), fund(10000, 0, 1), fund(0, 10000, far), fund(1, 9999, 5)} {
		for i := range 6 {
			funds := many(6)
			funds[i] = f
			if s := scheme(flat, funds...); !withhold.Right(s) {
				t.Errorf("Right(%v): false", s)
			}
		}
	}
	if s := (withhold.Scheme{Rows: flat, Funds: []withhold.Fund{}}); !withhold.Right(s) {
		t.Errorf("Right(%v): false", s)
	}
	for _, s := range append(wrongSchemes(), withhold.Scheme{}) {
		if withhold.Right(s) {
			t.Errorf("Right(%v): true", s)
		}
	}
}

// P14.1: Right, by every rate of a fund, and by how many funds there are.
func TestRightByRateAndNumber(t *testing.T) {
	for bps := -50; bps <= 10050; bps++ {
		for _, f := range []withhold.Fund{fund(bps, 0, 0), fund(0, bps, 9), fund(bps, bps, api.Most)} {
			if got := withhold.Right(scheme(flat, fund(1, 1, 1), f)); got != (bps >= 0 && bps <= 10000) {
				t.Errorf("Right with %v: %v", f, got)
			}
		}
	}
	for n := range 40 {
		if got := withhold.Right(scheme(steps, make([]withhold.Fund, n)...)); got != (n <= 6) {
			t.Errorf("Right of %d funds: %v", n, got)
		}
	}
}

// year is one of a Taxable, a Base and a Tax, of what was paid, and of what is owed.
func year(taxable, base, tax int, paid, owed []int) withhold.Year {
	return withhold.Year{Taxable: taxable, Base: base, Tax: tax, Paid: paid, Owed: owed}
}

// P14.1: Due, of ordinary amounts, at, below and above a Ceiling, at one of 0, and below 0.
func TestDue(t *testing.T) {
	three := scheme(steps, fund(950, 1010, 200000), fund(333, 10000, 0), fund(10000, 1, api.Most))
	for _, y := range []withhold.Year{
		year(0, 0, 0, []int{0, 0, 0}, []int{0, 0, 0}),
		year(100000, 1, 0, []int{0, 0, 1}, []int{0, 0, 0}),
		year(100004, 10, 0, []int{0, 0, 10}, []int{1, 0, 0}),
		year(100005, 11, 1, []int{1, 0, 11}, []int{1, 0, 0}),
		year(200000, 100000, 20000, []int{9500, 0, 100000}, []int{10100, 0, 10}),
		year(300000, 199999, 40000, []int{18999, 0, 199999}, []int{20199, 0, 19}),
		year(300001, 200000, 40000, []int{19000, 0, 200000}, []int{20200, 0, 20}),
		year(300003, 200001, 40001, []int{19000, 0, 200001}, []int{20200, 0, 20}),
		year(400000, 900000, 82500, []int{19000, 0, 900000}, []int{20200, 0, 90}),
		year(400000, -1, 82500, []int{0, 0, 0}, []int{0, 0, 0}),
		year(400000, -200000, 82500, []int{0, 0, 0}, []int{0, 0, 0}),
		year(-1, 200000, 0, []int{19000, 0, 200000}, []int{20200, 0, 20}),
		year(-400000, -900000, 0, []int{0, 0, 0}, []int{0, 0, 0}),
		year(near, near, 478507460320615, []int{19000, 0, near}, []int{20200, 0, 112589990684}),
		year(-near, near, 0, []int{19000, 0, near}, []int{20200, 0, 112589990684}),
		year(near, -near, 478507460320615, []int{0, 0, 0}, []int{0, 0, 0}),
		year(-near, -near, 0, []int{0, 0, 0}, []int{0, 0, 0}),
	} {
		if got, e := withhold.Due(three, y.Taxable, y.Base); !same(got, y) || e != api.OK {
			t.Errorf("Due(%d, %d): %v, %d, not %v", y.Taxable, y.Base, got, e, y)
		}
		isDue(t, three, y.Taxable, y.Base)
	}
}

// P14.1: each part of a tax, and each fund's part, is rounded Down by itself; who has no funds has a tax alone.
func TestDueIsRoundedDown(t *testing.T) {
	halves := []api.Row{{Above: 0, Rate: 5000}, {Above: 1, Rate: 5000}, {Above: 2, Rate: 9999}}
	for base := range 12 {
		want := year(base, base, max(0, base-2)*9999/10000, []int{base / 2, base / 2, base * 9999 / 10000}, []int{base * 9999 / 10000, base, base * 3334 / 10000})
		s := scheme(halves, fund(5000, 9999, 100), fund(5000, 10000, 11), fund(9999, 3334, api.Most))
		if got, e := withhold.Due(s, base, base); !same(got, want) || e != api.OK {
			t.Errorf("Due(%d, %d): %v, %d, not %v", base, base, got, e, want)
		}
		if got, e := withhold.Due(scheme(halves), base, base); !same(got, year(base, base, want.Tax, nil, nil)) || e != api.OK {
			t.Errorf("Due(%d, %d) of no funds: %v, %d", base, base, got, e)
		}
	}
}

// P14.1: a Ceiling of every size, by bases at, below and above it.
func TestDueByCeiling(t *testing.T) {
	for _, ceiling := range []int{0, 1, 2, 9, 10, 11, 9999, 10000, 30000, 1 << 31, 1 << 32, near - 1, near, far, 1 << 62, api.Most - 1, api.Most} {
		for _, base := range []int{-near, -10000, -1, 0, 1, 9, 10, 11, 10000, ceiling - 1, ceiling, ceiling + 1, near - 1, near} {
			if base < -near || base > near {
				continue
			}
			s := scheme(flat, fund(10000, 0, ceiling), fund(0, 10000, ceiling), fund(1250, 775, ceiling))
			isDue(t, s, 0, base)
			y, _ := withhold.Due(s, 0, base)
			if want := min(max(0, base), ceiling); y.Paid[0] != want || y.Owed[1] != want || y.Owed[0] != 0 || y.Paid[1] != 0 {
				t.Errorf("Due(%v, 0, %d): %v, not %d of it", s, base, y, want)
			}
		}
	}
}

// P14.1: of each number of rows and of funds, at all edges.
func TestDueAtEdges(t *testing.T) {
	amounts := []int{-near, -near + 1, -1 << 32, -777, -1, 0, 1, 2, 3, 776, 777, 778, 1000, 1001, 5000, 8547, 8548, 99999, 100000, 100001, 1 << 31, 1 << 32, 1 << 49, near - 1, near}
	for _, rows := range tables() {
		for n := range 7 {
			for i, taxable := range amounts {
				isDue(t, scheme(rows, many(n)...), taxable, amounts[len(amounts)-1-i])
				isDue(t, scheme(rows, many(n)...), taxable, taxable)
			}
		}
	}
}

// farAmounts are behind 2^50, either way; the last one is no amount.
var farAmounts = []int{far, -far, 1 << 51, -1 << 51, 1 << 62, -1 << 62, api.Most - 1, api.Most, -api.Most, math.MinInt}

// P14.1: Due's errors, of which that of the scheme comes first.
func TestDueErrors(t *testing.T) {
	s := scheme(steps, many(6)...)
	for _, n := range farAmounts {
		for _, m := range append(farAmounts, -near, -1, 0, 1, near) {
			isNoDue(t, s, n, m, api.ErrOver)
			isNoDue(t, s, m, n, api.ErrOver)
			isNoDue(t, scheme(flat), n, m, api.ErrOver)
		}
	}
	for _, wrong := range wrongSchemes() {
		for _, n := range append(farAmounts, -near, 0, 100, near) {
			isNoDue(t, wrong, n, 0, api.ErrArg)
			isNoDue(t, wrong, 0, n, api.ErrArg)
			isNoDue(t, wrong, n, n, api.ErrArg)
		}
	}
}

// P14.2: the months of a year, one behind the other: above and below a row, a Ceiling and 0.
func TestStep(t *testing.T) {
	s := scheme(steps, fund(1000, 2000, 150000), fund(50, 0, api.Most))
	var y withhold.Year
	for _, c := range []struct{ year, came withhold.Year }{
		{year(90000, 100000, 0, []int{10000, 500}, []int{20000, 0}), year(90000, 100000, 0, []int{10000, 500}, []int{20000, 0})},
		{year(180000, 200000, 16000, []int{15000, 1000}, []int{30000, 0}), year(90000, 100000, 16000, []int{5000, 500}, []int{10000, 0})},
		{year(180000, 300000, 16000, []int{15000, 1500}, []int{30000, 0}), year(0, 100000, 0, []int{0, 500}, []int{0, 0})},
		{year(380000, 300000, 74000, []int{15000, 1500}, []int{30000, 0}), year(200000, 0, 58000, []int{0, 0}, []int{0, 0})},
		{year(380000, 300000, 74000, []int{15000, 1500}, []int{30000, 0}), year(0, 0, 0, []int{0, 0}, []int{0, 0})},
		{year(290000, 120000, 38000, []int{12000, 600}, []int{24000, 0}), year(-90000, -180000, -36000, []int{-3000, -900}, []int{-6000, 0})},
		{year(-10000, -5000, 0, []int{0, 0}, []int{0, 0}), year(-300000, -125000, -38000, []int{-12000, -600}, []int{-24000, 0})},
		{year(-20000, -1, 0, []int{0, 0}, []int{0, 0}), year(-10000, 4999, 0, []int{0, 0}, []int{0, 0})},
		{year(100010, 199, 2, []int{19, 0}, []int{39, 0}), year(120010, 200, 2, []int{19, 0}, []int{39, 0})},
		{year(100015, 200, 3, []int{20, 1}, []int{40, 0}), year(5, 1, 1, []int{1, 1}, []int{1, 0})},
		{year(0, 0, 0, []int{0, 0}, []int{0, 0}), year(-100015, -200, -3, []int{-20, -1}, []int{-40, 0})},
	} {
		z, m, e := withhold.Step(s, y, c.came.Taxable, c.came.Base)
		if !same(z, c.year) || !same(m, c.came) || e != api.OK {
			t.Errorf("Step(%v, %d, %d): %v, %v, %d, not %v, %v", y, c.came.Taxable, c.came.Base, z, m, e, c.year, c.came)
		}
		y = z
	}
}

// P14.2: the chapter's example.
func TestExample(t *testing.T) {
	z, m, e := withhold.Step(scheme(flat), withhold.Year{}, 10000, 0)
	if !same(z, year(10000, 0, 1000, nil, nil)) || !same(m, z) || e != api.OK {
		t.Errorf("100.00: %v, %v, %d", z, m, e)
	}
	z, m, e = withhold.Step(scheme(flat), z, -10000, 0)
	if !same(z, withhold.Year{}) || !same(m, year(-10000, 0, -1000, nil, nil)) || e != api.OK {
		t.Errorf("-100.00: %v, %v, %d", z, m, e)
	}
}

// P14.2: a year whose lists are empty, one or both, is as one whose lists are of noughts.
func TestStepFromEmptyLists(t *testing.T) {
	for n := range 7 {
		s := scheme(flat, many(n)...)
		for _, base := range []int{-5000, 0, 700, near} {
			want, wantCame, _ := withhold.Step(s, year(7, 0, 0, make([]int, n), make([]int, n)), 60, base)
			if want.Base != base || len(want.Paid) != n || len(wantCame.Owed) != n {
				t.Errorf("Step of %d funds: %v, %v", n, want, wantCame)
			}
			for _, l := range [][2][]int{{nil, nil}, {{}, {}}, {nil, make([]int, n)}, {make([]int, n), {}}} {
				z, m, e := withhold.Step(s, year(7, 0, 0, l[0], l[1]), 60, base)
				if !same(z, want) || !same(m, wantCame) || e != api.OK {
					t.Errorf("Step of %d funds, from %v: %v, %v, %d, not %v, %v", n, l, z, m, e, want, wantCame)
				}
			}
		}
	}
}

// P14.2: what came is what is due, less whatever the year tells, even where that was never due.
func TestStepFromOddYears(t *testing.T) {
	s := scheme(flat, fund(1000, 2000, 5000), fund(100, 0, api.Most))
	for _, c := range []struct{ from, came withhold.Year }{
		{year(0, 0, 0, nil, nil), year(500, 6000, 50, []int{500, 60}, []int{1000, 0})},
		{year(0, 0, 49, []int{-3, 61}, []int{1001, -8}), year(500, 6000, 1, []int{503, -1}, []int{-1, 8})},
		{year(0, 0, -7, nil, []int{1, 2}), year(500, 6000, 57, []int{500, 60}, []int{999, -2})},
		{year(0, 0, 1<<62, []int{-1 << 62, 1 << 62}, nil), year(500, 6000, 50-1<<62, []int{500 + 1<<62, 60 - 1<<62}, []int{1000, 0})},
		{year(0, 0, api.Most, []int{api.Most, api.Most - 1}, []int{api.Most, -api.Most}), year(500, 6000, 50-api.Most, []int{500 - api.Most, 61 - api.Most}, []int{1000 - api.Most, api.Most})},
	} {
		z, m, e := withhold.Step(s, c.from, 500, 6000)
		if !same(z, year(500, 6000, 50, []int{500, 60}, []int{1000, 0})) || !same(m, c.came) || e != api.OK {
			t.Errorf("Step from %v: %v, %v, %d, not %v", c.from, z, m, e, c.came)
		}
	}
}

// P14.2: 2^50 and -2^50 of each of the four and of both sums, and 1 farther.
func TestStepBounds(t *testing.T) {
	s := scheme(steps, fund(1000, 1, api.Most), fund(10000, 10000, near))
	edges := []int{-far, -near, -near + 1, -1, 0, 1, near - 1, near, far}
	for _, was := range edges {
		for _, more := range edges {
			for _, pair := range [][4]int{{was, more, 0, 0}, {0, 0, was, more}, {was, more, more, was}, {was, more, was, more}, {100, -100, was, more}, {was, more, near, 0}} {
				taxable, base := month{pair[0], 0}, month{0, pair[2]}
				p := play{s: s, y: exactDue(s, taxable, base), came: []month{taxable, base}}
				p.step(t, pair[1], pair[3])
			}
		}
	}
	isNoStep(t, s, year(near, 0, 0, nil, nil), 1, 0, api.ErrOver)
	isNoStep(t, s, year(0, -near, 0, nil, nil), 0, -1, api.ErrOver)
	isNoStep(t, s, year(far, 0, 0, nil, nil), -near, 0, api.ErrOver)
	isNoStep(t, s, year(0, -far, 0, nil, nil), 0, near, api.ErrOver)
	isNoStep(t, s, year(-near, 0, 0, nil, nil), far, 0, api.ErrOver)
	isNoStep(t, s, year(0, near, 0, nil, nil), 0, -far, api.ErrOver)
}

// P14.2: what is farther is too far, even where its sum would wrap round to what is near.
func TestStepTooFar(t *testing.T) {
	s := scheme(flat, many(6)...)
	for _, n := range farAmounts {
		for _, m := range []int{n, -n, 0, 1, -1, near, -near, api.Most, math.MinInt} {
			isNoStep(t, s, year(n, 0, 0, nil, nil), m, 0, api.ErrOver)
			isNoStep(t, s, year(m, 0, 0, nil, nil), n, 0, api.ErrOver)
			isNoStep(t, s, year(0, n, 0, nil, nil), 0, m, api.ErrOver)
			isNoStep(t, s, year(0, m, 0, nil, nil), 0, n, api.ErrOver)
		}
	}
}

// P14.2: lists with more or fewer members than there are funds; but that of the scheme, and ErrOver, come first.
func TestStepErrors(t *testing.T) {
	for funds := range 7 {
		s := scheme(steps, many(funds)...)
		for n := 1; n < 20; n++ {
			if n == funds {
				continue
			}
			l, right := make([]int, n), make([]int, funds)
			for _, lists := range [][2][]int{{l, right}, {right, l}, {l, nil}, {nil, l}, {l, l}, {l, l[1:]}} {
				y := year(near, 0, 0, lists[0], lists[1])
				isNoStep(t, s, y, 0, 0, api.ErrArg)
				isNoStep(t, s, y, -near, near, api.ErrArg)
				isNoStep(t, s, y, 1, 0, api.ErrOver)
				isNoStep(t, s, y, -far, 0, api.ErrOver)
				isNoStep(t, s, y, 0, far, api.ErrOver)
			}
		}
	}
	for _, wrong := range wrongSchemes() {
		for _, n := range append(farAmounts, 0, 5, near) {
			isNoStep(t, wrong, withhold.Year{}, n, 0, api.ErrArg)
			isNoStep(t, wrong, withhold.Year{}, 0, n, api.ErrArg)
			isNoStep(t, wrong, year(n, n, n, make([]int, len(wrong.Funds)), []int{1, 2, 3}), 7, n, api.ErrArg)
		}
	}
}

// P14.3: whatever came, in whatever order, what is withheld is what is due of it all together.
func TestWhateverTheMonths(t *testing.T) {
	months := []month{{30000, 30001}, {-5000, 0}, {120007, -60000}, {0, 99999}, {90003, 3}, {-250000, -90000}, {333333, 150000}}
	g := strewn(3)
	for range 200 {
		p := play{s: g.scheme()}
		for i := range months {
			j := g.below(i + 1)
			months[i], months[j] = months[j], months[i]
		}
		withheld := year(0, 0, 0, make([]int, len(p.s.Funds)), make([]int, len(p.s.Funds)))
		for _, m := range months {
			_, came, _ := withhold.Step(p.s, p.y, m.taxable, m.base)
			withheld = sum(withheld, came)
			p = p.step(t, m.taxable, m.base)
			isPaidBackToTheLast(t, p.s, withheld)
		}
		taxable, base := 318343, 130003
		if want, e := withhold.Due(p.s, taxable, base); e != api.OK || !same(p.y, want) || !same(withheld, want) {
			t.Fatalf("%v, by months: %v, of it all: %v, %d", p.s, withheld, want, e)
		}
	}
}

// sum is what came, and what came then.
func sum(y, z withhold.Year) withhold.Year {
	y.Taxable, y.Base, y.Tax = y.Taxable+z.Taxable, y.Base+z.Base, y.Tax+z.Tax
	y.Paid, y.Owed = slices.Clone(y.Paid), slices.Clone(y.Owed)
	for i := range z.Paid {
		y.Paid[i] += z.Paid[i]
		y.Owed[i] += z.Owed[i]
	}
	return y
}

// isPaidBackToTheLast: no sum of what was withheld is below 0; and none is left, if all that came is taken back, or as much more as may be.
func isPaidBackToTheLast(t *testing.T, s withhold.Scheme, withheld withhold.Year) {
	t.Helper()
	noughts := make([]int, len(s.Funds))
	if withheld.Tax < 0 || len(s.Funds) > 0 && (slices.Min(withheld.Paid) < 0 || slices.Min(withheld.Owed) < 0) {
		t.Fatalf("%v: more is paid back than was paid: %v", s, withheld)
	}
	for _, back := range []month{{-withheld.Taxable, -withheld.Base}, {-near - min(withheld.Taxable, 0), -near - min(withheld.Base, 0)}} {
		want := year(withheld.Taxable+back.taxable, withheld.Base+back.base, 0, noughts, noughts)
		z, m, e := withhold.Step(s, withheld, back.taxable, back.base)
		if e != api.OK || !same(z, want) || !same(sum(withheld, m), want) {
			t.Fatalf("%v, %v of %v taken back: %v, %v, %d", s, back, withheld, z, m, e)
		}
	}
}

// R1, R4: nothing that was handed in is kept, no two lists that are answered share memory, and what is answered is the same at every call.
func TestNothingKept(t *testing.T) {
	s := scheme(slices.Clone(steps), many(3)...)
	y, _ := withhold.Due(s, 200000, 3000)
	before := fmt.Sprint(s, y)
	z, m, _ := withhold.Step(s, y, 100, 100)
	due, _ := withhold.Due(s, 200100, 3100)
	want := fmt.Sprint(z, m, due)
	lists := [][]int{z.Paid, z.Owed, m.Paid, m.Owed, due.Paid, due.Owed}
	for i, l := range lists {
		for j := range l {
			l[j] = -1000 * (i + 1)
		}
	}
	for i, l := range lists {
		if len(l) != 3 || slices.Min(l) != -1000*(i+1) || slices.Max(l) != -1000*(i+1) {
			t.Errorf("list %d is shared: %v", i, l)
		}
	}
	if fmt.Sprint(s, y) != before {
		t.Errorf("what was handed in changed: %v, %v", s, y)
	}
	z, m, _ = withhold.Step(s, y, 100, 100)
	due, _ = withhold.Due(s, 200100, 3100)
	if got := fmt.Sprint(z, m, due); got != want {
		t.Errorf("told once more: %v, not %v", got, want)
	}
}

// P1: no call panics, and each ends, whatever it is handed.
func TestOddArguments(t *testing.T) {
	odd := []int{math.MinInt, -api.Most, -far, -near, -1, 0, 1, 10000, near, far, api.Most}
	for _, s := range append(wrongSchemes(), withhold.Scheme{}, scheme(flat), scheme(steps, many(6)...)) {
		for _, n := range odd {
			for _, m := range odd {
				withhold.Right(s)
				withhold.Due(s, n, m)
				withhold.Step(s, year(n, m, n, []int{m}, nil), m, n)
				withhold.Step(s, year(0, 0, n, slices.Repeat([]int{n}, 6), slices.Repeat([]int{m}, 6)), 0, 0)
			}
		}
	}
	long := make([]int, 1<<16)
	isNoStep(t, scheme(flat), year(0, 0, 0, long, long), 0, 0, api.ErrArg)
	isNoDue(t, scheme(make([]api.Row, 1<<16), make([]withhold.Fund, 1<<16)...), 0, 0, api.ErrArg)
}
