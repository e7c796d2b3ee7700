package rate_test

import (
	"math"
	"math/big"
	"strings"
	"testing"

	"paymaster/api"
	"paymaster/rate"
)

const modes = 4

// amounts are numbers near the bounds, near 0, and near where a basis point makes a hundredth; math.MinInt is no amount.
func amounts() []int {
	l := []int{math.MinInt, 0}
	for _, n := range []int{1, 2, 3, 7, 49, 50, 51, 99, 100, 101, 999, 1005, 4999, 5000, 5001, 9999, 10000, 10001, 15000, 25000, 123456, 1<<31 - 1, 1 << 32, 1<<62 - 1, 1 << 62, api.Most / api.Whole, api.Most/api.Whole + 1, api.Most / 3, api.Most - 2, api.Most - 1, api.Most} {
		l = append(l, n, -n)
	}
	return l
}

// noRates are numbers that are no rates, some of which are rates in their low 32 or 16 bits.
func noRates() []int {
	return []int{math.MinInt, -api.Most, -1 << 32, -10001, -10000, -100, -2, -1, 10001, 10002, 20000, 1 << 16, 1 << 32, 1<<32 + 100, 1 << 62, api.Most - 1, api.Most}
}

// rates are 0, Whole, and those about them and about a half and a quarter.
func rates() []int {
	return []int{0, 1, 2, 3, 25, 99, 100, 101, 500, 1250, 2499, 2500, 2501, 3333, 4999, 5000, 5001, 6667, 7500, 9998, 9999, 10000}
}

// wholes are numbers from 1 on, of which parts are taken.
func wholes() []int {
	return []int{1, 2, 3, 4, 7, 12, 28, 30, 31, 365, 9999, 10000, 10001, 1 << 32, 1<<62 + 1, api.Most / 2, api.Most - 1, api.Most}
}

// partsOf are 0, whole, and those about them and about its half and third.
func partsOf(whole int) []int {
	l := []int{}
	for _, n := range []int{0, 1, 2, whole / 3, whole/2 - 1, whole / 2, whole/2 + 1, whole - 2, whole - 1, whole} {
		if n >= 0 && n <= whole {
			l = append(l, n)
		}
	}
	return l
}

// rounded is n by c, c above 0, reckoned without bounds; the modes are told by their sizes, and by twice what is left over.
func rounded(n, c *big.Int, mode int) *big.Int {
	near, left := new(big.Int).QuoRem(new(big.Int).Abs(n), c, new(big.Int))
	half := left.Lsh(left, 1).Cmp(c)
	far := mode == api.Up && left.Sign() > 0 ||
		mode == api.HalfUp && half >= 0 ||
		mode == api.HalfEven && (half > 0 || half == 0 && near.Bit(0) == 1)
	if far {
		near.Add(near, big.NewInt(1))
	}
	if n.Sign() < 0 {
		near.Neg(near)
	}
	return near
}

// exact is the answer that P3.1 asks for, its errors in the order in which they are named.
func exact(amount, part, whole, mode int) (int, api.Errno) {
	switch {
	case whole < 1 || part < 0 || part > whole:
		return 0, api.ErrArg
	case mode < 0 || mode > 3:
		return 0, api.ErrArg
	case amount == math.MinInt:
		return 0, api.ErrOver
	}
	product := new(big.Int).Mul(big.NewInt(int64(amount)), big.NewInt(int64(part)))
	return int(rounded(product, big.NewInt(int64(whole)), mode).Int64()), api.OK
}

func checkOf(t *testing.T, amount, bps, mode int) {
	t.Helper()
	want, wantErr := exact(amount, bps, 10000, mode)
	if got, e := rate.Of(amount, bps, mode); got != want || e != wantErr {
		t.Fatalf("Of(%d, %d, %d) = %d, %d; want %d, %d", amount, bps, mode, got, e, want, wantErr)
	}
}

func checkProrate(t *testing.T, amount, part, whole, mode int) {
	t.Helper()
	want, wantErr := exact(amount, part, whole, mode)
	if got, e := rate.Prorate(amount, part, whole, mode); got != want || e != wantErr {
		t.Fatalf("Prorate(%d, %d, %d, %d) = %d, %d; want %d, %d", amount, part, whole, mode, got, e, want, wantErr)
	}
}

// P3.1: Right.
func TestRight(t *testing.T) {
	for bps := range 10001 {
		if !rate.Right(bps) {
			t.Errorf("Right(%d) = false", bps)
		}
	}
	for _, bps := range noRates() {
		if rate.Right(bps) {
			t.Errorf("Right(%d) = true", bps)
		}
	}
}

// P3.1: Of, in every mode, with nothing, less than half, half and more than half left over, on both sides of 0.
func TestOfModes(t *testing.T) {
	for _, c := range []struct {
		amount, bps                int
		down, up, halfUp, halfEven int
	}{
		{1005, 1250, 125, 126, 126, 126},
		{10000, 1250, 1250, 1250, 1250, 1250},
		{999, 500, 49, 50, 50, 50},
		{1000, 25, 2, 3, 3, 2},
		{1000, 35, 3, 4, 4, 4},
		{1, 1, 0, 1, 0, 0},
		{1, 4999, 0, 1, 0, 0},
		{1, 5000, 0, 1, 1, 0},
		{1, 5001, 0, 1, 1, 1},
		{3, 5000, 1, 2, 2, 2},
		{1, 9999, 0, 1, 1, 1},
		{5000, 1, 0, 1, 1, 0},
		{0, 5000, 0, 0, 0, 0},
		{123456, 0, 0, 0, 0, 0},
		{123456, 10000, 123456, 123456, 123456, 123456},
		{api.Most, 0, 0, 0, 0, 0},
		{api.Most, 5000, 1<<62 - 1, 1 << 62, 1 << 62, 1 << 62},
		{api.Most - 2, 5000, 1<<62 - 2, 1<<62 - 1, 1<<62 - 1, 1<<62 - 2},
		{api.Most, 9999, 9222449699651090329, 9222449699651090330, 9222449699651090329, 9222449699651090329},
		{api.Most, 10000, api.Most, api.Most, api.Most, api.Most},
	} {
		for mode, want := range []int{c.down, c.up, c.halfUp, c.halfEven} {
			if got, e := rate.Of(c.amount, c.bps, mode); got != want || e != api.OK {
				t.Errorf("Of(%d, %d, %d) = %d, %d; want %d", c.amount, c.bps, mode, got, e, want)
			}
			if got, e := rate.Of(-c.amount, c.bps, mode); got != -want || e != api.OK {
				t.Errorf("Of(%d, %d, %d) = %d, %d; want %d", -c.amount, c.bps, mode, got, e, -want)
			}
		}
	}
}

// P3.1: Of at every rate, and at all edges, wrong ones among them, held against exact reckoning.
func TestOfEdges(t *testing.T) {
	for _, amount := range amounts() {
		for bps := range 10001 {
			checkOf(t, amount, bps, bps%modes)
		}
		for _, bps := range append(rates(), noRates()...) {
			for mode := -1; mode <= modes; mode++ {
				checkOf(t, amount, bps, mode)
			}
		}
	}
}

// P3.1: Of, of several errors the one named first.
func TestOfErrors(t *testing.T) {
	for _, c := range []struct {
		amount, bps, mode int
		want              api.Errno
	}{
		{100, -1, 0, api.ErrArg},
		{100, 10001, 0, api.ErrArg},
		{0, 10001, 3, api.ErrArg},
		{100, math.MinInt, 0, api.ErrArg},
		{100, api.Most, 0, api.ErrArg},
		{api.Most, 20000, 1, api.ErrArg},
		{math.MinInt, -1, 0, api.ErrArg},
		{math.MinInt, 10001, 0, api.ErrArg},
		{math.MinInt, math.MinInt, 4, api.ErrArg},
		{100, 100, -1, api.ErrArg},
		{100, 100, 4, api.ErrArg},
		{100, 100, math.MinInt, api.ErrArg},
		{100, 100, 1 << 32, api.ErrArg},
		{100, 0, 4, api.ErrArg},
		{0, 10000, 4, api.ErrArg},
		{math.MinInt, 100, 4, api.ErrArg},
		{math.MinInt, 0, 0, api.ErrOver},
		{math.MinInt, 1, 1, api.ErrOver},
		{math.MinInt, 5000, 2, api.ErrOver},
		{math.MinInt, 10000, 3, api.ErrOver},
	} {
		if n, e := rate.Of(c.amount, c.bps, c.mode); n != 0 || e != c.want {
			t.Errorf("Of(%d, %d, %d) = %d, %d; want 0, %d", c.amount, c.bps, c.mode, n, e, c.want)
		}
	}
}

// P3.1: Prorate, in every mode, on both sides of 0.
func TestProrateModes(t *testing.T) {
	for _, c := range []struct {
		amount, part, whole        int
		down, up, halfUp, halfEven int
	}{
		{3000, 10, 30, 1000, 1000, 1000, 1000},
		{100, 1, 3, 33, 34, 33, 33},
		{100, 2, 3, 66, 67, 67, 67},
		{5, 1, 2, 2, 3, 3, 2},
		{7, 1, 2, 3, 4, 4, 4},
		{310000, 17, 31, 170000, 170000, 170000, 170000},
		{250000, 11, 28, 98214, 98215, 98214, 98214},
		{1, 0, 1, 0, 0, 0, 0},
		{1, 1, 1, 1, 1, 1, 1},
		{77, 0, 31, 0, 0, 0, 0},
		{77, 31, 31, 77, 77, 77, 77},
		{1, 1, api.Most, 0, 1, 0, 0},
		{1, 1<<62 - 1, api.Most, 0, 1, 0, 0},
		{1, 1 << 62, api.Most, 0, 1, 1, 1},
		{api.Most, 1, api.Most, 1, 1, 1, 1},
		{api.Most, api.Most - 1, api.Most, api.Most - 1, api.Most - 1, api.Most - 1, api.Most - 1},
		{api.Most, api.Most, api.Most, api.Most, api.Most, api.Most, api.Most},
		{api.Most - 1, api.Most - 1, api.Most, api.Most - 2, api.Most - 1, api.Most - 2, api.Most - 2},
		{api.Most, 0, api.Most, 0, 0, 0, 0},
		{api.Most, 2, 3, 6148914691236517204, 6148914691236517205, 6148914691236517205, 6148914691236517205},
	} {
		for mode, want := range []int{c.down, c.up, c.halfUp, c.halfEven} {
			if got, e := rate.Prorate(c.amount, c.part, c.whole, mode); got != want || e != api.OK {
				t.Errorf("Prorate(%d, %d, %d, %d) = %d, %d; want %d", c.amount, c.part, c.whole, mode, got, e, want)
			}
			if got, e := rate.Prorate(-c.amount, c.part, c.whole, mode); got != -want || e != api.OK {
				t.Errorf("Prorate(%d, %d, %d, %d) = %d, %d; want %d", -c.amount, c.part, c.whole, mode, got, e, -want)
			}
		}
	}
}

// P3.1: Prorate at all small numbers, wrong ones among them, held against exact reckoning.
func TestProrateOfSmallNumbers(t *testing.T) {
	for amount := -13; amount <= 13; amount++ {
		for part := -3; part <= 13; part++ {
			for whole := -3; whole <= 13; whole++ {
				for mode := -1; mode <= modes; mode++ {
					checkProrate(t, amount, part, whole, mode)
				}
			}
		}
	}
}

// P3.1: Prorate at all edges, wrong ones among them, held against exact reckoning.
func TestProrateOfEdges(t *testing.T) {
	for _, amount := range amounts() {
		for mode := -1; mode <= modes; mode++ {
			for _, whole := range wholes() {
				for _, part := range partsOf(whole) {
					checkProrate(t, amount, part, whole, mode)
				}
			}
			for _, part := range amounts() {
				for _, whole := range amounts() {
					checkProrate(t, amount, part, whole, mode)
				}
			}
		}
	}
}

// P3.1: Prorate, of several errors the one named first; no whole is 0 where layer 2 is asked, so ErrZero never comes.
func TestProrateErrors(t *testing.T) {
	for _, c := range []struct {
		amount, part, whole, mode int
		want                      api.Errno
	}{
		{100, 0, 0, 0, api.ErrArg},
		{0, 0, 0, 0, api.ErrArg},
		{100, 0, -1, 0, api.ErrArg},
		{100, -1, -1, 0, api.ErrArg},
		{100, -2, -1, 0, api.ErrArg},
		{100, 1, -api.Most, 0, api.ErrArg},
		{100, 0, math.MinInt, 0, api.ErrArg},
		{100, math.MinInt, math.MinInt, 0, api.ErrArg},
		{100, -1, 3, 0, api.ErrArg},
		{100, math.MinInt, 3, 0, api.ErrArg},
		{100, 4, 3, 0, api.ErrArg},
		{100, 2, 1, 0, api.ErrArg},
		{100, api.Most, api.Most - 1, 0, api.ErrArg},
		{0, 4, 3, 0, api.ErrArg},
		{math.MinInt, 0, 0, 0, api.ErrArg},
		{math.MinInt, 0, -1, 0, api.ErrArg},
		{math.MinInt, -1, 3, 0, api.ErrArg},
		{math.MinInt, 4, 3, 0, api.ErrArg},
		{100, 1, 3, 4, api.ErrArg},
		{100, 1, 3, -1, api.ErrArg},
		{100, 0, 3, math.MaxInt, api.ErrArg},
		{100, 3, 3, 1 << 32, api.ErrArg},
		{math.MinInt, 1, 3, 4, api.ErrArg},
		{math.MinInt, 1, 3, 0, api.ErrOver},
		{math.MinInt, 0, 1, 1, api.ErrOver},
		{math.MinInt, 1, 1, 2, api.ErrOver},
		{math.MinInt, api.Most, api.Most, 3, api.ErrOver},
	} {
		if n, e := rate.Prorate(c.amount, c.part, c.whole, c.mode); n != 0 || e != c.want {
			t.Errorf("Prorate(%d, %d, %d, %d) = %d, %d; want 0, %d", c.amount, c.part, c.whole, c.mode, n, e, c.want)
		}
	}
}

// P3.2: texts, both ways.
func TestTextAndParse(t *testing.T) {
	for _, c := range []struct {
		bps int
		s   string
	}{
		{0, "0.00%"},
		{1, "0.01%"},
		{5, "0.05%"},
		{9, "0.09%"},
		{10, "0.10%"},
		{50, "0.50%"},
		{99, "0.99%"},
		{100, "1.00%"},
		{101, "1.01%"},
		{999, "9.99%"},
		{1000, "10.00%"},
		{1250, "12.50%"},
		{5000, "50.00%"},
		{9999, "99.99%"},
		{10000, "100.00%"},
	} {
		if s, e := rate.Text(c.bps); s != c.s || e != api.OK {
			t.Errorf("Text(%d) = %q, %d; want %q", c.bps, s, e, c.s)
		}
		if bps, ok := rate.Parse(c.s); bps != c.bps || !ok {
			t.Errorf("Parse(%q) = %d, %v; want %d", c.s, bps, ok, c.bps)
		}
	}
}

// P3.2: every rate has a text that is its alone, and is parsed back of it.
func TestEveryRatesText(t *testing.T) {
	told := map[string]int{}
	for bps := range 10001 {
		s, e := rate.Text(bps)
		if e != api.OK {
			t.Fatalf("Text(%d): error %d", bps, e)
		}
		if other, there := told[s]; there {
			t.Fatalf("Text(%d) = %q, as is that of %d", bps, s, other)
		}
		told[s] = bps
		if back, ok := rate.Parse(s); back != bps || !ok {
			t.Fatalf("Parse(%q) = %d, %v; want %d", s, back, ok, bps)
		}
	}
}

// P3.2: no text of what is no rate, be it an amount or not.
func TestTextOfNoRate(t *testing.T) {
	for _, bps := range noRates() {
		if s, e := rate.Text(bps); s != "" || e != api.ErrArg {
			t.Errorf("Text(%d) = %q, %d", bps, s, e)
		}
	}
}

// P3.2: texts that are no rate's.
func TestParseOfNoText(t *testing.T) {
	for _, s := range []string{
		"", "%", "%%", "-%", ".%", "-", ".", "0", "5", "0%", "5%", "50%", "100%", "0.%", ".5%", ".50%", "5.%", "5.0%", "0.0%", "12.5%", "1.000%", "12.500%",
		"0.00", "1.00", "12.50", "100.00", "1.00%%", "%1.00", "%1.00%", "1%.00", "1.%00", "1.0%0", "1.00%0", "1.00%1.00%",
		"100.01%", "100.10%", "101.00%", "110.00%", "200.00%", "999.99%", "1000.00%", "10000.00%", "655.36%", "42949672.96%", "92233720368547758.07%", "92233720368547758.08%", "184467440737095516.16%", "184467440737095517.16%",
		"-0.00%", "-0.01%", "-1.00%", "-100.00%", "-92233720368547758.07%", "--1.00%", "+1.00%", "+0.00%", "-+1.00%",
		"00.00%", "00.50%", "01.00%", "012.50%", "000.00%", "0100.00%", "0012.50%",
		" 1.00%", "1.00% ", "1.00 %", "1 .00%", "1. 00%", "1.00%\n", "1.00\n%", "\n1.00%", "1.00\x00%", "1.00%\x00", "\x001.00%", "\t1.00%",
		"1,00%", "1:00%", "1/00%", "1_0.00%", "1..00%", "1.0.0%", "1.00.%", "1.-5%", "1.+5%", "1.ab%", "a.bc%", "x%", "0x1.00%", "1e1.00%", "1.e1%", "/.00%", ":.00%", "1.0:%", "NaN%",
		"1.00％", "1.00‰", "１.00%", "1．00%", "١.٠٠%", "−1.00%", "1.00٪", "\xff.00%", "1.\xff\xff%", "1.00\xff%", "1.00%\xff",
	} {
		if bps, ok := rate.Parse(s); bps != 0 || ok {
			t.Errorf("Parse(%q) = %d, %v", s, bps, ok)
		}
	}
}

// P3.2: a long text ends, and wraps round at no length.
func TestParseOfLongText(t *testing.T) {
	for many := 4; many < 100; many++ {
		for _, c := range "0123456789" {
			digits := strings.Repeat(string(c), many)
			for _, s := range []string{digits + ".00%", "-" + digits + ".00%", "1." + digits + "%"} {
				if bps, ok := rate.Parse(s); bps != 0 || ok {
					t.Errorf("Parse(%q) = %d, %v", s, bps, ok)
				}
			}
		}
	}
	for _, s := range []string{strings.Repeat("9", 1<<20) + ".99%", strings.Repeat("%", 1<<20), "1.00" + strings.Repeat("%", 1<<20)} {
		if bps, ok := rate.Parse(s); bps != 0 || ok {
			t.Errorf("Parse of a long text = %d, %v", bps, ok)
		}
	}
}

// P3.2: of all short texts those alone are parsed that are told of a rate.
func TestParseOfShortTexts(t *testing.T) {
	signs := "-+.%015 a"
	texts := []string{""}
	for range 6 {
		next := make([]string, 0, len(texts)*len(signs))
		for _, s := range texts {
			for _, c := range signs {
				next = append(next, s+string(c))
			}
		}
		texts = next
		for _, s := range texts {
			bps, ok := rate.Parse(s)
			if !ok && bps != 0 {
				t.Fatalf("Parse(%q) = %d, false", s, bps)
			}
			if told, _ := rate.Text(bps); ok && told != s {
				t.Fatalf("Parse(%q) = %d, of which the text is %q", s, bps, told)
			}
		}
	}
}

// isWithin: is part on the amount's side of 0, and no farther from it?
func isWithin(part, amount int) bool {
	return min(0, amount) <= part && part <= max(0, amount)
}

// P3.3: a part is never farther from 0 than the amount.
func TestPartIsWithinTheAmount(t *testing.T) {
	for _, amount := range amounts() {
		if amount == math.MinInt {
			continue
		}
		for mode := range modes {
			for _, bps := range rates() {
				if n, e := rate.Of(amount, bps, mode); e != api.OK || !isWithin(n, amount) {
					t.Errorf("Of(%d, %d, %d) = %d, %d", amount, bps, mode, n, e)
				}
			}
			for _, whole := range wholes() {
				for _, part := range partsOf(whole) {
					if n, e := rate.Prorate(amount, part, whole, mode); e != api.OK || !isWithin(n, amount) {
						t.Errorf("Prorate(%d, %d, %d, %d) = %d, %d", amount, part, whole, mode, n, e)
					}
				}
			}
		}
	}
}

// P3.3: none, and all, of an amount are 0, and it.
func TestNoneAndAll(t *testing.T) {
	for _, amount := range amounts() {
		if amount == math.MinInt {
			continue
		}
		for mode := range modes {
			if n, e := rate.Of(amount, 0, mode); n != 0 || e != api.OK {
				t.Errorf("Of(%d, 0, %d) = %d, %d", amount, mode, n, e)
			}
			if n, e := rate.Of(amount, api.Whole, mode); n != amount || e != api.OK {
				t.Errorf("Of(%d, Whole, %d) = %d, %d", amount, mode, n, e)
			}
			for _, whole := range wholes() {
				if n, e := rate.Prorate(amount, 0, whole, mode); n != 0 || e != api.OK {
					t.Errorf("Prorate(%d, 0, %d, %d) = %d, %d", amount, whole, mode, n, e)
				}
				if n, e := rate.Prorate(amount, whole, whole, mode); n != amount || e != api.OK {
					t.Errorf("Prorate(%d, %d, %d, %d) = %d, %d", amount, whole, whole, mode, n, e)
				}
			}
		}
	}
}
