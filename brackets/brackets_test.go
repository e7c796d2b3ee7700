package brackets_test

import (
	"math"
	"math/big"
	"slices"
	"testing"

	"paymaster/api"
	"paymaster/brackets"
)

// table is that of the rows whose Above and Rate follow one another.
func table(numbers ...int) []api.Row {
	t := []api.Row{}
	for pair := range slices.Chunk(numbers, 2) {
		t = append(t, api.Row{Above: pair[0], Rate: pair[1]})
	}
	return t
}

// stairs is a table of many rows, width apart, all of one rate.
func stairs(many, width, bps int) []api.Row {
	t := make([]api.Row, many)
	for i := range t {
		t[i] = api.Row{Above: i * width, Rate: bps}
	}
	return t
}

// with is a copy of t with another row at place i.
func with(t []api.Row, i int, above, bps int) []api.Row {
	t = slices.Clone(t)
	t[i] = api.Row{Above: above, Rate: bps}
	return t
}

// rightTables have 1, 12 and other numbers of rows, rates of 0 and of all, rates that fall, and rows that are 1 apart, or near the bounds.
func rightTables() [][]api.Row {
	l := [][]api.Row{
		table(0, 0), table(0, 1), table(0, 1000), table(0, 3333), table(0, 9999), table(0, 10000),
		table(0, 1000, 10000, 2000), table(0, 0, 100000, 2000, 300000, 4000), table(0, 4500, 7, 1900, 20, 1), table(0, 5000, 1, 5000, 2, 5000),
		table(0, 0, 1, 0), table(0, 0, 1, 10000), table(0, 10000, 1, 0), table(0, 10000, 100, 0, 200, 10000), table(0, 0, 100, 10000, 200, 0),
		table(0, 3333, 3, 6667, 10, 9999, 100, 1, 10001, 7777),
		table(0, 1, api.Most, 10000), table(0, 10000, api.Most-1, 9999), table(0, 10000, api.Most-1, 0, api.Most, 10000), table(0, 9999, api.Most-2, 5000, api.Most-1, 2500, api.Most, 1),
		table(0, 2500, 1<<31, 5000, 1<<32, 7500, 1<<62, 10000), table(0, 9999, api.Most/3, 9998, api.Most/2, 9997),
	}
	for _, bps := range []int{0, 1, 4999, 9999, 10000} {
		l = append(l, stairs(2, 1, bps), stairs(11, 7, bps), stairs(12, 1, bps), stairs(12, 99, bps), stairs(12, 10000, bps), stairs(12, api.Most/11, bps))
	}
	uneven := stairs(12, 150, 0)
	for i := range uneven {
		uneven[i].Rate = i * 7919 % 10001
	}
	return append(l, uneven)
}

// wrongTables are each wrong in one way, or in several.
func wrongTables() [][]api.Row {
	l := [][]api.Row{
		nil, {}, stairs(13, 1, 0), stairs(13, 1000, 100), stairs(14, 10, 10000), stairs(24, 5, 5), stairs(1000, 3, 3), make([]api.Row, 13),
		table(1, 0), table(-1, 0), table(100, 1000), table(-api.Most, 0), table(math.MinInt, 0), table(api.Most, 0), table(1<<32, 0),
		table(1, 0, 2, 0), table(-1, 0, 0, 0), table(-1, 0, 1, 0), table(math.MinInt, 0, 0, 0, 1, 0),
		table(0, 0, 0, 0), table(0, 0, -1, 0), table(0, 0, -api.Most, 0), table(0, 0, math.MinInt, 0),
		table(0, 0, 0, 0, 5, 0), table(0, 0, -1, 0, 5, 0), table(0, 0, 5, 0, 5, 0), table(0, 0, 5, 0, 4, 0), table(0, 0, 5, 0, 0, 0), table(0, 0, 5, 0, -5, 0),
		table(0, 0, 100, 0, 50, 0), table(0, 0, 100, 0, 200, 0, 150, 0), table(0, 0, 100, 0, 100, 0, 200, 0), table(0, 0, 200, 0, 100, 0, 300, 0),
		table(0, 0, api.Most, 0, api.Most, 0), table(0, 0, api.Most, 0, api.Most-1, 0), table(0, 0, api.Most, 0, math.MinInt, 0), table(0, 0, 1<<32+1, 0, 2, 0),
		table(0, 0, 5, 10001, 5, -1), table(7, -1), table(7, 10001, 7, 10001),
		with(stairs(12, 10, 100), 0, 1, 100), with(stairs(12, 10, 100), 11, 100, 100), with(stairs(12, 10, 100), 11, 99, 100), with(stairs(12, 10, 100), 10, 110, 100), with(stairs(12, 10, 100), 6, 50, 100), with(stairs(12, 10, 100), 6, 0, 100),
	}
	for _, bps := range []int{math.MinInt, -api.Most, -10000, -1, 10001, 20000, 1 << 32, 1<<32 + 1, api.Most} {
		l = append(l, table(0, bps), table(0, bps, 1, 0), table(0, 0, 1, bps), table(0, 0, 1, bps, 2, 0), with(stairs(12, 10, 100), 0, 0, bps), with(stairs(12, 10, 100), 6, 60, bps), with(stairs(12, 10, 100), 11, 110, bps))
	}
	return l
}

// amountsFor are amounts, in ascending order: about 0, near the bounds, and at each row's Above and about it.
func amountsFor(t []api.Row) []int {
	l := []int{-api.Most, -api.Most + 1, -1 << 62, -1 << 32, -10000, -100, -2, 1<<31 - 1, 1 << 32, 1<<62 - 1, 1 << 62, api.Most / 3, api.Most - 3}
	for n := -1; n <= 120; n++ {
		l = append(l, n)
	}
	for _, n := range []int{999, 4999, 5000, 5001, 9999, 10000, 10001, 19999, 20000, 99999, 123456789, api.Most / 10000, api.Most/10000 + 1} {
		l = append(l, n)
	}
	for _, row := range t {
		for off := -2; off <= 2; off++ {
			if row.Above <= api.Most-2 {
				l = append(l, row.Above+off)
			}
		}
	}
	l = append(l, api.Most-2, api.Most-1, api.Most)
	slices.Sort(l)
	return slices.Compact(l)
}

func whole(n int) *big.Int { return big.NewInt(int64(n)) }

// exactParts are told by what is above each row, less what is above the next one.
func exactParts(t []api.Row, amount int) []int {
	above := make([]*big.Int, len(t)+1)
	for i, row := range t {
		above[i] = new(big.Int).Sub(whole(amount), whole(row.Above))
		if above[i].Sign() < 0 {
			above[i].SetInt64(0)
		}
	}
	above[len(t)] = new(big.Int)
	parts := make([]int, len(t))
	for i := range parts {
		parts[i] = int(new(big.Int).Sub(above[i], above[i+1]).Int64())
	}
	return parts
}

// exactTax is reckoned without bounds.
func exactTax(t []api.Row, amount int) int {
	sum := new(big.Int)
	for i, part := range exactParts(t, amount) {
		product := new(big.Int).Mul(whole(part), whole(t[i].Rate))
		sum.Add(sum, product.Quo(product, whole(10000)))
	}
	return int(sum.Int64())
}

// exactRate is looked for from the last row on.
func exactRate(t []api.Row, amount int) int {
	for _, row := range slices.Backward(t) {
		if row.Above < amount {
			return row.Rate
		}
	}
	return 0
}

// checkAll holds the three answers against exact reckoning.
func checkAll(t *testing.T, rows []api.Row, amount int) {
	t.Helper()
	before := slices.Clone(rows)
	if got, e := brackets.Parts(rows, amount); !slices.Equal(got, exactParts(rows, amount)) || e != api.OK {
		t.Fatalf("Parts(%v, %d) = %d, %d; want %d", rows, amount, got, e, exactParts(rows, amount))
	}
	if got, e := brackets.Tax(rows, amount); got != exactTax(rows, amount) || e != api.OK {
		t.Fatalf("Tax(%v, %d) = %d, %d; want %d", rows, amount, got, e, exactTax(rows, amount))
	}
	if got, e := brackets.Rate(rows, amount); got != exactRate(rows, amount) || e != api.OK {
		t.Fatalf("Rate(%v, %d) = %d, %d; want %d", rows, amount, got, e, exactRate(rows, amount))
	}
	if !slices.Equal(rows, before) {
		t.Fatalf("the table changed: %v, was %v", rows, before)
	}
}

// checkError: all three answer that error, and nothing else.
func checkError(t *testing.T, rows []api.Row, amount int, want api.Errno) {
	t.Helper()
	before := slices.Clone(rows)
	if l, e := brackets.Parts(rows, amount); len(l) != 0 || e != want {
		t.Errorf("Parts(%v, %d) = %d, %d; want none, %d", rows, amount, l, e, want)
	}
	if n, e := brackets.Tax(rows, amount); n != 0 || e != want {
		t.Errorf("Tax(%v, %d) = %d, %d; want 0, %d", rows, amount, n, e, want)
	}
	if n, e := brackets.Rate(rows, amount); n != 0 || e != want {
		t.Errorf("Rate(%v, %d) = %d, %d; want 0, %d", rows, amount, n, e, want)
	}
	if !slices.Equal(rows, before) {
		t.Errorf("the table changed: %v, was %v", rows, before)
	}
}

// P5.1: Right.
func TestRight(t *testing.T) {
	for _, rows := range rightTables() {
		if !brackets.Right(rows) {
			t.Errorf("Right(%v) = false", rows)
		}
	}
	for _, rows := range wrongTables() {
		if brackets.Right(rows) {
			t.Errorf("Right(%v) = true", rows)
		}
	}
}

// P5.1: Right, of how many rows.
func TestRightByHowManyRows(t *testing.T) {
	for many := range 100 {
		if got, want := brackets.Right(stairs(many, 10, 100)), many >= 1 && many <= 12; got != want {
			t.Errorf("Right of %d rows = %v", many, got)
		}
	}
}

// P5.1: Right, of all tables of up to 4 rows whose Above is from -1 to 4.
func TestRightByAbove(t *testing.T) {
	lists := [][]api.Row{nil}
	for range 4 {
		next := [][]api.Row{}
		for _, rows := range lists {
			for above := -1; above <= 4; above++ {
				next = append(next, append(slices.Clone(rows), api.Row{Above: above, Rate: 100}))
			}
		}
		lists = next
		for _, rows := range lists {
			want := rows[0].Above == 0
			for i := range rows[1:] {
				want = want && rows[i+1].Above > rows[i].Above
			}
			if got := brackets.Right(rows); got != want {
				t.Errorf("Right(%v) = %v", rows, got)
			}
		}
	}
}

// P5.1: Right, of every rate, in the first, the last and another row.
func TestRightByRate(t *testing.T) {
	for bps := -100; bps <= 10100; bps++ {
		want := bps >= 0 && bps <= 10000
		for _, rows := range [][]api.Row{table(0, bps), table(0, bps, 5, 0), table(0, 0, 5, bps), table(0, 10000, 5, bps, 6, 10000)} {
			if got := brackets.Right(rows); got != want {
				t.Errorf("Right(%v) = %v", rows, got)
			}
		}
	}
}

// P5.1: Parts, at a row's Above, just below and just above it.
func TestParts(t *testing.T) {
	three := table(0, 0, 100000, 2000, 300000, 4000)
	for _, c := range []struct {
		rows   []api.Row
		amount int
		want   []int
	}{
		{table(0, 1000), 0, []int{0}},
		{table(0, 1000), -5, []int{0}},
		{table(0, 1000), 5, []int{5}},
		{table(0, 1000), api.Most, []int{api.Most}},
		{table(0, 1000), -api.Most, []int{0}},
		{three, -api.Most, []int{0, 0, 0}},
		{three, -1, []int{0, 0, 0}},
		{three, 0, []int{0, 0, 0}},
		{three, 1, []int{1, 0, 0}},
		{three, 99999, []int{99999, 0, 0}},
		{three, 100000, []int{100000, 0, 0}},
		{three, 100001, []int{100000, 1, 0}},
		{three, 299999, []int{100000, 199999, 0}},
		{three, 300000, []int{100000, 200000, 0}},
		{three, 300001, []int{100000, 200000, 1}},
		{three, 350000, []int{100000, 200000, 50000}},
		{three, api.Most, []int{100000, 200000, api.Most - 300000}},
		{table(0, 0, api.Most, 0), api.Most - 1, []int{api.Most - 1, 0}},
		{table(0, 0, api.Most, 0), api.Most, []int{api.Most, 0}},
		{table(0, 0, api.Most-1, 0), api.Most, []int{api.Most - 1, 1}},
		{table(0, 0, api.Most, 0), -api.Most, []int{0, 0}},
		{table(0, 0, 1<<62, 0), -api.Most, []int{0, 0}},
		{stairs(12, 1, 0), 5, []int{1, 1, 1, 1, 1, 0, 0, 0, 0, 0, 0, 0}},
		{stairs(12, 1, 0), 11, []int{1, 1, 1, 1, 1, 1, 1, 1, 1, 1, 1, 0}},
		{stairs(12, 10, 0), 200, []int{10, 10, 10, 10, 10, 10, 10, 10, 10, 10, 10, 90}},
	} {
		if got, e := brackets.Parts(c.rows, c.amount); !slices.Equal(got, c.want) || e != api.OK {
			t.Errorf("Parts(%v, %d) = %d, %d; want %d", c.rows, c.amount, got, e, c.want)
		}
	}
}

// P5.1: Tax, each part of which is rounded Down by itself.
func TestTax(t *testing.T) {
	two := table(0, 1000, 10000, 2000)
	three := table(0, 0, 100000, 2000, 300000, 4000)
	for _, c := range []struct {
		rows   []api.Row
		amount int
		want   int
	}{
		{two, -15000, 0},
		{two, -1, 0},
		{two, 0, 0},
		{two, 9, 0},
		{two, 10, 1},
		{two, 9999, 999},
		{two, 10000, 1000},
		{two, 10004, 1000},
		{two, 10005, 1001},
		{two, 15000, 2000},
		{three, 100000, 0},
		{three, 100004, 0},
		{three, 100005, 1},
		{three, 300000, 40000},
		{three, 300002, 40000},
		{three, 300003, 40001},
		{three, 400000, 80000},
		{table(0, 5000, 1, 5000, 2, 5000), 3, 0},
		{table(0, 5000, 1, 5000, 2, 5000), 4, 1},
		{table(0, 9999, 9, 9999), 18, 16},
		{stairs(12, 9, 9999), 108, 96},
		{table(0, 10000, 100, 0), 250, 100},
		{table(0, 0, 100, 10000), 250, 150},
		{table(0, 10000), 1, 1},
		{table(0, 10000), api.Most, api.Most},
		{table(0, 10000), -api.Most, 0},
		{stairs(12, 1000, 10000), api.Most, api.Most},
		{table(0, 0), api.Most, 0},
		{table(0, 9999), api.Most, 9222449699651090329},
		{table(0, 5000), api.Most, 1<<62 - 1},
		{table(0, 5000, 1, 5000), api.Most, 1<<62 - 1},
		{table(0, 0, api.Most-1, 10000), api.Most, 1},
		{table(0, 10000, api.Most, 0), api.Most, api.Most},
	} {
		if got, e := brackets.Tax(c.rows, c.amount); got != c.want || e != api.OK {
			t.Errorf("Tax(%v, %d) = %d, %d; want %d", c.rows, c.amount, got, e, c.want)
		}
	}
}

// P5.1: Rate, which at a row's Above is yet that of the row ahead.
func TestRate(t *testing.T) {
	three := table(0, 500, 100000, 2000, 300000, 4000)
	for _, c := range []struct {
		rows   []api.Row
		amount int
		want   int
	}{
		{three, -api.Most, 0},
		{three, -1, 0},
		{three, 0, 0},
		{three, 1, 500},
		{three, 99999, 500},
		{three, 100000, 500},
		{three, 100001, 2000},
		{three, 300000, 2000},
		{three, 300001, 4000},
		{three, api.Most, 4000},
		{table(0, 10000), 0, 0},
		{table(0, 10000), 1, 10000},
		{table(0, 10000, 5, 0), 5, 10000},
		{table(0, 10000, 5, 0), 6, 0},
		{table(0, 3000, 5, 1000, 9, 2000), 9, 1000},
		{table(0, 3000, 5, 1000, 9, 2000), 10, 2000},
		{table(0, 1, api.Most, 2), api.Most, 1},
		{table(0, 1, api.Most-1, 2), api.Most, 2},
		{table(0, 1, api.Most-1, 2), api.Most - 1, 1},
		{with(stairs(12, 10, 1), 11, 110, 7), 110, 1},
		{with(stairs(12, 10, 1), 11, 110, 7), 111, 7},
	} {
		if got, e := brackets.Rate(c.rows, c.amount); got != c.want || e != api.OK {
			t.Errorf("Rate(%v, %d) = %d, %d; want %d", c.rows, c.amount, got, e, c.want)
		}
	}
}

// P5.1: at all edges, held against exact reckoning.
func TestEdges(t *testing.T) {
	for _, rows := range rightTables() {
		for _, amount := range amountsFor(rows) {
			checkAll(t, rows, amount)
		}
	}
}

// P5.1: at numbers strewn over all sizes, held against exact reckoning.
func TestStrewnNumbers(t *testing.T) {
	state := uint64(1)
	next := func() int {
		state = state*6364136223846793005 + 1442695040888963407
		return int(state >> 1)
	}
	for range 20000 {
		shift := next() >> 20 % 60
		rows := table(0, next()>>20%10001)
		for range next() >> 20 % 12 {
			rows = append(rows, api.Row{Above: next()>>shift | 1, Rate: next() >> 20 % 10001})
		}
		slices.SortFunc(rows, func(a, b api.Row) int { return a.Above - b.Above })
		rows = slices.CompactFunc(rows, func(a, b api.Row) bool { return a.Above == b.Above })
		for _, amount := range []int{next() >> shift, -next() >> shift, rows[len(rows)-1].Above} {
			checkAll(t, rows, amount)
		}
	}
}

// P5.1: of several errors the one named first.
func TestErrors(t *testing.T) {
	for _, rows := range wrongTables() {
		for _, amount := range []int{math.MinInt, -api.Most, -1, 0, 1, 5, 1000, api.Most} {
			checkError(t, rows, amount, api.ErrArg)
		}
	}
	for _, rows := range rightTables() {
		checkError(t, rows, math.MinInt, api.ErrOver)
	}
}

// R1 and R4: the parts are new memory, and the same at every call.
func TestPartsAreNewMemory(t *testing.T) {
	rows := table(0, 1000, 10, 2000)
	first, _ := brackets.Parts(rows, 15)
	second, _ := brackets.Parts(rows, 15)
	first[0], first[1] = -1, -2
	if !slices.Equal(second, []int{10, 5}) {
		t.Errorf("two answers share memory: %d", second)
	}
	if third, _ := brackets.Parts(rows, 15); !slices.Equal(third, second) {
		t.Errorf("Parts(%v, 15) = %d, was %d", rows, third, second)
	}
}

// P5.2: parts are the amount together, none is below 0, and each one ahead of another that is above 0 is whole.
func TestPartsAreTheAmount(t *testing.T) {
	for _, rows := range rightTables() {
		for _, amount := range amountsFor(rows) {
			parts, e := brackets.Parts(rows, amount)
			sum := new(big.Int)
			for i, part := range parts {
				sum.Add(sum, whole(part))
				if part < 0 || i > 0 && part > 0 && parts[i-1] != rows[i].Above-rows[i-1].Above {
					t.Errorf("Parts(%v, %d) = %d: part %d", rows, amount, parts, i)
				}
			}
			if e != api.OK || len(parts) != len(rows) || sum.Cmp(whole(max(amount, 0))) != 0 {
				t.Errorf("Parts(%v, %d) = %d, %d", rows, amount, parts, e)
			}
		}
	}
}

// P5.2: the tax of more is not less, and never more than that much more.
func TestTaxOfMore(t *testing.T) {
	for _, rows := range rightTables() {
		amounts := amountsFor(rows)
		for i, less := range amounts {
			taxOfLess, e := brackets.Tax(rows, less)
			if e != api.OK || taxOfLess < 0 || taxOfLess > max(less, 0) {
				t.Fatalf("Tax(%v, %d) = %d, %d", rows, less, taxOfLess, e)
			}
			for _, more := range amounts[i+1:] {
				taxOfMore, e := brackets.Tax(rows, more)
				room := new(big.Int).Sub(whole(more), whole(less))
				if e != api.OK || taxOfMore < taxOfLess || room.Cmp(whole(taxOfMore-taxOfLess)) < 0 {
					t.Fatalf("Tax(%v, %d) = %d, %d; Tax of %d = %d", rows, more, taxOfMore, e, less, taxOfLess)
				}
			}
		}
	}
}
