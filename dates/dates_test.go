package dates_test

import (
	"math"
	"slices"
	"testing"
	"time"

	"paymaster/dates"
)

// allDays: how many days there are from 1900-01-01 to 2999-12-31.
const allDays = 401767

func date(year, month, day int) dates.Date {
	return dates.Date{Year: year, Month: month, Day: day}
}

// everyDate, in order, is told by the library's calendar, so that its place is its number.
func everyDate() []dates.Date {
	l := []dates.Date{}
	for day := time.Date(1900, 1, 1, 0, 0, 0, 0, time.UTC); day.Year() < 3000; day = day.AddDate(0, 0, 1) {
		l = append(l, date(day.Year(), int(day.Month()), day.Day()))
	}
	return l
}

// farNumbers are none of a year, a month or a day; some would be one if their upper half were lost, or their sign.
func farNumbers() []int {
	return []int{math.MinInt, math.MinInt + 1, math.MinInt + 12, math.MinInt + 2000, -1 << 32, -1<<32 + 1, -1<<32 + 2000, -1 << 31, -3000, -2000, -1900, -100, -12, -2, -1,
		3001, 9999, 24000, 1<<31 - 1, 1 << 31, 1 << 32, 1<<32 + 1, 1<<32 + 2, 1<<32 + 2000, 1<<32 + 2024, 1 << 62, math.MaxInt - 2000, math.MaxInt - 12, math.MaxInt - 1, math.MaxInt}
}

// wrongDates are each wrong in one way, or in several.
func wrongDates() []dates.Date {
	l := []dates.Date{
		{}, date(0, 1, 1), date(1, 1, 1), date(1899, 12, 31), date(1899, 1, 1), date(1896, 2, 29), date(1600, 6, 15), date(3000, 1, 1), date(3000, 12, 31), date(3004, 2, 29), date(3200, 2, 29), date(3001, 6, 15),
		date(1900, 0, 1), date(1900, 13, 1), date(2024, 0, 1), date(2024, 13, 1), date(2999, 0, 31), date(2999, 13, 1), date(2024, -1, 1), date(2024, 14, 31), date(2024, 24, 1), date(2024, -11, 1),
		date(1900, 1, 0), date(2999, 12, 0), date(2024, 3, -1), date(2024, 1, 0), date(2999, 12, 32), date(2024, 1, 400), date(2024, 1, 100),
		date(1900, 2, 29), date(2100, 2, 29), date(2200, 2, 29), date(2300, 2, 29), date(2500, 2, 29), date(2900, 2, 29), date(1901, 2, 29), date(2022, 2, 29), date(2023, 2, 29), date(2999, 2, 29),
		date(1904, 2, 30), date(2000, 2, 30), date(2024, 2, 30), date(2400, 2, 30), date(2800, 2, 30), date(2024, 2, 31), date(2024, 4, 31), date(2024, 6, 31), date(2024, 9, 31), date(2024, 11, 31),
		date(1899, 13, 32), date(3000, 0, 0), date(-1, -1, -1), date(math.MinInt, math.MinInt, math.MinInt), date(math.MaxInt, math.MaxInt, math.MaxInt),
	}
	for _, far := range farNumbers() {
		l = append(l, date(far, 1, 1), date(far, 12, 31), date(2024, far, 1), date(2024, far, 31), date(2024, 2, far), date(far, far, far))
	}
	return l
}

// P6.1: Length, of months of years that 4 goes in, of those that 100 goes in, and of those that 400 goes in.
func TestLength(t *testing.T) {
	usual := []int{0, 31, 28, 31, 30, 31, 30, 31, 31, 30, 31, 30, 31, 0}
	leap := []int{0, 31, 29, 31, 30, 31, 30, 31, 31, 30, 31, 30, 31, 0}
	none := slices.Repeat([]int{0}, 14)
	for _, c := range []struct {
		years []int
		want  []int
	}{
		{[]int{1900, 1901, 1902, 1903, 1999, 2001, 2022, 2023, 2100, 2200, 2300, 2500, 2600, 2700, 2900, 2997, 2998, 2999}, usual},
		{[]int{1904, 1908, 1996, 2000, 2004, 2024, 2096, 2104, 2400, 2404, 2796, 2800, 2996}, leap},
		{[]int{-2024, -4, 0, 4, 400, 1600, 1896, 1898, 1899, 3000, 3001, 3004, 3200}, none},
	} {
		for _, year := range c.years {
			for month, want := range c.want {
				if got := dates.Length(year, month); got != want {
					t.Errorf("Length(%d, %d) = %d; want %d", year, month, got, want)
				}
			}
		}
	}
}

// P6.1: Length, of every month of every year, held against the library's calendar.
func TestLengthOfEveryMonth(t *testing.T) {
	for year := 1890; year <= 3010; year++ {
		for month := -3; month <= 16; month++ {
			want := 0
			if year >= 1900 && year <= 2999 && month >= 1 && month <= 12 {
				want = time.Date(year, time.Month(month)+1, 0, 0, 0, 0, 0, time.UTC).Day()
			}
			if got := dates.Length(year, month); got != want {
				t.Errorf("Length(%d, %d) = %d; want %d", year, month, got, want)
			}
		}
	}
}

// P6.1: Length, of numbers far from any year or month.
func TestLengthOfFarNumbers(t *testing.T) {
	for _, far := range farNumbers() {
		for _, other := range []int{0, 1, 2, 12, 13, 1899, 1900, 2024, 2999, 3000, far} {
			if got := dates.Length(far, other); got != 0 {
				t.Errorf("Length(%d, %d) = %d", far, other, got)
			}
			if got := dates.Length(other, far); got != 0 {
				t.Errorf("Length(%d, %d) = %d", other, far, got)
			}
		}
	}
}

// P6.1: Right, at the edges of years and months, and at the last day of each month and the one behind it.
func TestRight(t *testing.T) {
	isRight := map[dates.Date]bool{}
	for _, d := range everyDate() {
		isRight[d] = true
	}
	for _, year := range []int{0, 1898, 1899, 1900, 1901, 1904, 1996, 2000, 2023, 2024, 2100, 2400, 2900, 2996, 2999, 3000, 3001, 3004} {
		for month := -1; month <= 14; month++ {
			for day := -2; day <= 40; day++ {
				if d := date(year, month, day); dates.Right(d) != isRight[d] {
					t.Errorf("Right(%v) = %v", d, !isRight[d])
				}
			}
		}
	}
}

// P6.1: what is no date has no number and no period.
func TestWrongDates(t *testing.T) {
	for _, d := range wrongDates() {
		if dates.Right(d) {
			t.Errorf("Right(%v) = true", d)
		}
		if n, ok := dates.Number(d); n != 0 || ok {
			t.Errorf("Number(%v) = %d, %v", d, n, ok)
		}
		if p, ok := dates.Period(d); p != 0 || ok {
			t.Errorf("Period(%v) = %d, %v", d, p, ok)
		}
	}
}

// P6.1: Number and Of, at the edges of months and years, the first and the last one.
func TestNumberAndOf(t *testing.T) {
	for _, c := range []struct {
		d dates.Date
		n int
	}{
		{date(1900, 1, 1), 0},
		{date(1900, 1, 2), 1},
		{date(1900, 1, 31), 30},
		{date(1900, 2, 1), 31},
		{date(1900, 2, 28), 58},
		{date(1900, 3, 1), 59},
		{date(1900, 3, 31), 89},
		{date(1900, 4, 1), 90},
		{date(1900, 12, 31), 364},
		{date(1901, 1, 1), 365},
		{date(1903, 12, 31), 1459},
		{date(1904, 2, 28), 1518},
		{date(1904, 2, 29), 1519},
		{date(1904, 3, 1), 1520},
		{date(1904, 12, 31), 1825},
		{date(1905, 1, 1), 1826},
		{date(1970, 1, 1), 25567},
		{date(2000, 1, 1), 36524},
		{date(2000, 2, 29), 36583},
		{date(2000, 3, 1), 36584},
		{date(2000, 12, 31), 36889},
		{date(2100, 2, 28), 73107},
		{date(2100, 3, 1), 73108},
		{date(2999, 12, 30), allDays - 2},
		{date(2999, 12, 31), allDays - 1},
	} {
		if n, ok := dates.Number(c.d); n != c.n || !ok {
			t.Errorf("Number(%v) = %d, %v; want %d", c.d, n, ok, c.n)
		}
		if d, ok := dates.Of(c.n); d != c.d || !ok {
			t.Errorf("Of(%d) = %v, %v; want %v", c.n, d, ok, c.d)
		}
	}
}

// P6.1: of a number below 0, or behind the last date, there is no date.
func TestOfWrongNumbers(t *testing.T) {
	for _, n := range []int{-1, -2, -365, -366, -693595, -allDays, allDays, allDays + 1, allDays + 365, 1000000, 3652058,
		math.MinInt, math.MinInt + 1, math.MinInt + allDays, -1 << 32, -1<<32 + 1, -1 << 31, 1<<31 - 1, 1 << 31, 1 << 32, 1<<32 + 59, 1 << 62, math.MaxInt - allDays, math.MaxInt - 1, math.MaxInt} {
		if d, ok := dates.Of(n); d != (dates.Date{}) || ok {
			t.Errorf("Of(%d) = %v, %v", n, d, ok)
		}
	}
}

// P6.1: Period, at the edges of months and years.
func TestPeriod(t *testing.T) {
	for _, c := range []struct {
		d    dates.Date
		want int
	}{
		{date(1900, 1, 1), 22800},
		{date(1900, 1, 31), 22800},
		{date(1900, 2, 1), 22801},
		{date(1900, 12, 31), 22811},
		{date(1901, 1, 1), 22812},
		{date(2023, 1, 15), 24276},
		{date(2023, 2, 28), 24277},
		{date(2024, 2, 29), 24289},
		{date(2024, 12, 1), 24299},
		{date(2999, 12, 1), 35999},
		{date(2999, 12, 31), 35999},
	} {
		if got, ok := dates.Period(c.d); got != c.want || !ok {
			t.Errorf("Period(%v) = %d, %v; want %d", c.d, got, ok, c.want)
		}
	}
}

// P6.3: dates and their numbers go with one another, day by day; and each has the period of its month.
func TestEveryDate(t *testing.T) {
	all := everyDate()
	if len(all) != allDays {
		t.Fatalf("%d dates", len(all))
	}
	for i, want := range all {
		d, isDate := dates.Of(i)
		n, isNumber := dates.Number(want)
		period, isPeriod := dates.Period(want)
		if d != want || !isDate || n != i || !isNumber || !dates.Right(want) {
			t.Fatalf("Of(%d) = %v, %v; Number(%v) = %d, %v", i, d, isDate, want, n, isNumber)
		}
		if period != 12*want.Year+want.Month-1 || !isPeriod {
			t.Fatalf("Period(%v) = %d, %v", want, period, isPeriod)
		}
	}
}

// P6.3: the number of a period's days together is that of the dates from one to another.
func TestDaysTogether(t *testing.T) {
	for _, c := range []struct{ from, to dates.Date }{
		{date(1900, 1, 1), date(2999, 12, 31)},
		{date(1900, 2, 28), date(1900, 3, 1)},
		{date(1999, 7, 17), date(2001, 3, 9)},
		{date(2023, 12, 31), date(2024, 1, 1)},
		{date(2024, 2, 29), date(2024, 2, 29)},
		{date(2099, 6, 30), date(2401, 7, 1)},
	} {
		first, _ := dates.Number(c.from)
		last, _ := dates.Number(c.to)
		sum := 0
		for period := 12*1900 - 5; period < 12*3000+5; period++ {
			sum += dates.Days(c.from, c.to, period)
		}
		if sum != last-first+1 {
			t.Errorf("%v to %v: %d days; want %d", c.from, c.to, sum, last-first+1)
		}
	}
}

// P6.2: Days, to the same date, to a later one of the same period, of another one and of another year, and to an earlier one.
func TestDays(t *testing.T) {
	for _, c := range []struct {
		from, to dates.Date
		period   int
		want     int
	}{
		{date(2024, 2, 10), date(2024, 2, 10), 24289, 1},
		{date(2024, 2, 10), date(2024, 2, 10), 24288, 0},
		{date(2024, 2, 10), date(2024, 2, 10), 24290, 0},
		{date(2024, 2, 10), date(2024, 2, 11), 24289, 2},
		{date(2024, 2, 1), date(2024, 2, 29), 24289, 29},
		{date(2023, 2, 1), date(2023, 2, 28), 24277, 28},
		{date(2024, 2, 10), date(2024, 3, 5), 24288, 0},
		{date(2024, 2, 10), date(2024, 3, 5), 24289, 20},
		{date(2024, 2, 10), date(2024, 3, 5), 24290, 5},
		{date(2024, 2, 10), date(2024, 3, 5), 24291, 0},
		{date(2024, 1, 31), date(2024, 4, 1), 24288, 1},
		{date(2024, 1, 31), date(2024, 4, 1), 24289, 29},
		{date(2024, 1, 31), date(2024, 4, 1), 24290, 31},
		{date(2024, 1, 31), date(2024, 4, 1), 24291, 1},
		{date(2023, 12, 31), date(2024, 1, 1), 24287, 1},
		{date(2023, 12, 31), date(2024, 1, 1), 24288, 1},
		{date(2023, 12, 31), date(2024, 1, 1), 24286, 0},
		{date(2023, 12, 31), date(2024, 1, 1), 24289, 0},
		{date(2020, 6, 15), date(2025, 6, 15), 24245, 16},
		{date(2020, 6, 15), date(2025, 6, 15), 24289, 29},
		{date(2020, 6, 15), date(2025, 6, 15), 24305, 15},
		{date(2020, 6, 15), date(2025, 6, 15), 24306, 0},
		{date(2024, 2, 11), date(2024, 2, 10), 24289, 0},
		{date(2024, 2, 29), date(2024, 2, 1), 24289, 0},
		{date(2024, 3, 5), date(2024, 2, 10), 24289, 0},
		{date(2024, 3, 5), date(2024, 2, 10), 24290, 0},
		{date(2024, 4, 5), date(2024, 2, 10), 24290, 0},
		{date(2025, 1, 1), date(2023, 12, 31), 24288, 0},
		{date(2999, 12, 31), date(1900, 1, 1), 24288, 0},
		{date(1900, 1, 1), date(2999, 12, 31), 22800, 31},
		{date(1900, 1, 1), date(2999, 12, 31), 22801, 28},
		{date(1900, 1, 1), date(2999, 12, 31), 35999, 31},
		{date(1900, 1, 1), date(2999, 12, 31), 35998, 30},
		{date(1900, 1, 1), date(2999, 12, 31), 24001, 29},
		{date(1900, 1, 31), date(2999, 12, 1), 22800, 1},
		{date(1900, 1, 31), date(2999, 12, 1), 35999, 1},
	} {
		if got := dates.Days(c.from, c.to, c.period); got != c.want {
			t.Errorf("Days(%v, %v, %d) = %d; want %d", c.from, c.to, c.period, got, c.want)
		}
	}
}

// counted goes through all dates from one to another one, and counts those of that period.
func counted(between []dates.Date, period int) int {
	n := 0
	for _, d := range between {
		if 12*d.Year+d.Month-1 == period {
			n++
		}
	}
	return n
}

// P6.2: Days, of all pairs of dates about the turn of a year, and of some that are far from one another, held against counting.
func TestDaysByCounting(t *testing.T) {
	all := everyDate()
	begin, _ := dates.Number(date(2023, 11, 25))
	end, _ := dates.Number(date(2024, 3, 7))
	for from := begin; from <= end; from++ {
		for to := begin; to <= end; to++ {
			for period := 24285; period <= 24291; period++ {
				checkDays(t, all, from, to, period)
			}
		}
	}
	places := []int{0, 30, 31, 58, 59, 364, 365, 1519, 36583, 36584, 45350, allDays - 32, allDays - 31, allDays - 1}
	for _, from := range places {
		for _, to := range places {
			for _, period := range []int{22799, 22800, 22801, 22802, 22811, 22812, 22849, 24000, 24001, 24002, 24289, 35998, 35999, 36000} {
				checkDays(t, all, from, to, period)
			}
		}
	}
}

// checkDays takes both dates by their numbers.
func checkDays(t *testing.T, all []dates.Date, from, to, period int) {
	t.Helper()
	want := 0
	if from <= to {
		want = counted(all[from:to+1], period)
	}
	if got := dates.Days(all[from], all[to], period); got != want {
		t.Fatalf("Days(%v, %v, %d) = %d; want %d", all[from], all[to], period, got, want)
	}
}

// P6.2: where one is no date, there are no days, whatever the period.
func TestDaysOfWrongDates(t *testing.T) {
	for _, wrong := range wrongDates() {
		for _, right := range []dates.Date{date(1900, 1, 1), date(2024, 2, 29), date(2999, 12, 31)} {
			for _, period := range []int{math.MinInt, -1, 0, 22799, 22800, 22801, 24288, 24289, 24290, 35999, 36000, math.MaxInt} {
				for _, pair := range [][2]dates.Date{{wrong, right}, {right, wrong}, {wrong, wrong}} {
					if got := dates.Days(pair[0], pair[1], period); got != 0 {
						t.Errorf("Days(%v, %v, %d) = %d", pair[0], pair[1], period, got)
					}
				}
			}
		}
	}
}

// P6.2: a period in which no date is has no days.
func TestDaysOfWrongPeriods(t *testing.T) {
	first, last := date(1900, 1, 1), date(2999, 12, 31)
	for _, period := range []int{math.MinInt, math.MinInt + 1, math.MinInt + 24289, -1 << 32, -1<<32 + 24289, -36000, -35999, -24289, -22801, -22800, -13, -12, -11, -2, -1, 0, 1, 11, 12, 13, 1900, 2024,
		22787, 22788, 22798, 22799, 36000, 36001, 36011, 36012, 1<<31 - 1, 1 << 32, 1<<32 + 24289, 1 << 62, math.MaxInt - 24289, math.MaxInt - 1, math.MaxInt} {
		if got := dates.Days(first, last, period); got != 0 {
			t.Errorf("Days(%v, %v, %d) = %d", first, last, period, got)
		}
		if got := dates.Days(last, first, period); got != 0 {
			t.Errorf("Days(%v, %v, %d) = %d", last, first, period, got)
		}
	}
}
