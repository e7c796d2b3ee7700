package money_test

import (
	"math"
	"math/big"
	"slices"
	"strings"
	"testing"

	"paymaster/api"
	"paymaster/money"
)

// edges are numbers near the bounds, near 0, and near where a digit more is written; math.MinInt is no amount.
func edges() []int {
	l := []int{math.MinInt}
	for _, n := range []int{0, 1, 2, 9, 10, 11, 50, 99, 100, 101, 999, 1000, 1001, 9999, 10000, 123456, 1 << 31, 1 << 32, 1 << 62, 1<<62 + 1, api.Most / 10, api.Most / 100, api.Most - 100, api.Most - 99, api.Most - 2, api.Most - 1, api.Most} {
		l = append(l, n, -n)
	}
	return l
}

// exact is the answer asked for, reckoned without bounds: ErrOver, if a part of it or what comes is no amount.
func exact(come *big.Int, of ...int) (int, api.Errno) {
	if slices.Contains(of, math.MinInt) {
		return 0, api.ErrOver
	}
	if new(big.Int).Abs(come).Cmp(big.NewInt(api.Most)) > 0 {
		return 0, api.ErrOver
	}
	return int(come.Int64()), api.OK
}

func whole(n int) *big.Int { return big.NewInt(int64(n)) }

// P1.1: Right.
func TestRight(t *testing.T) {
	for _, n := range edges() {
		if got, want := money.Right(n), n != math.MinInt; got != want {
			t.Errorf("Right(%d) = %v", n, got)
		}
	}
}

// P1.1: Add and Sub, at all pairs of edges.
func TestAddSub(t *testing.T) {
	for _, a := range edges() {
		for _, b := range edges() {
			want, wantErr := exact(new(big.Int).Add(whole(a), whole(b)), a, b)
			if got, e := money.Add(a, b); got != want || e != wantErr {
				t.Errorf("Add(%d, %d) = %d, %d; want %d, %d", a, b, got, e, want, wantErr)
			}
			want, wantErr = exact(new(big.Int).Sub(whole(a), whole(b)), a, b)
			if got, e := money.Sub(a, b); got != want || e != wantErr {
				t.Errorf("Sub(%d, %d) = %d, %d; want %d, %d", a, b, got, e, want, wantErr)
			}
		}
	}
}

// P1.1: what would be an amount is none, if it comes of what is none.
func TestAddSubOfNoAmount(t *testing.T) {
	if n, e := money.Add(math.MinInt, 1); n != 0 || e != api.ErrOver {
		t.Errorf("Add(MinInt, 1) = %d, %d", n, e)
	}
	if n, e := money.Add(5, math.MinInt); n != 0 || e != api.ErrOver {
		t.Errorf("Add(5, MinInt) = %d, %d", n, e)
	}
	if n, e := money.Sub(math.MinInt, math.MinInt); n != 0 || e != api.ErrOver {
		t.Errorf("Sub(MinInt, MinInt) = %d, %d", n, e)
	}
	if n, e := money.Sub(-1, math.MinInt); n != 0 || e != api.ErrOver {
		t.Errorf("Sub(-1, MinInt) = %d, %d", n, e)
	}
}

// P1.1: Neg.
func TestNeg(t *testing.T) {
	for _, a := range edges() {
		want, wantErr := exact(new(big.Int).Neg(whole(a)), a)
		if got, e := money.Neg(a); got != want || e != wantErr {
			t.Errorf("Neg(%d) = %d, %d; want %d, %d", a, got, e, want, wantErr)
		}
	}
}

// P1.1: Sum, of which the order counts.
func TestSum(t *testing.T) {
	for _, c := range []struct {
		l    []int
		want int
		e    api.Errno
	}{
		{nil, 0, api.OK},
		{[]int{}, 0, api.OK},
		{[]int{7}, 7, api.OK},
		{[]int{1, 2, -10}, -7, api.OK},
		{[]int{api.Most}, api.Most, api.OK},
		{[]int{-api.Most}, -api.Most, api.OK},
		{[]int{api.Most, -api.Most, api.Most}, api.Most, api.OK},
		{[]int{api.Most, -5, 5}, api.Most, api.OK},
		{[]int{api.Most, 5, -5}, 0, api.ErrOver},
		{[]int{-api.Most, -1, 1}, 0, api.ErrOver},
		{[]int{api.Most, api.Most, api.Most}, 0, api.ErrOver},
		{[]int{1 << 62, 1 << 62, -1}, 0, api.ErrOver},
		{[]int{1 << 62, -1, 1 << 62}, api.Most, api.OK},
		{[]int{math.MinInt}, 0, api.ErrOver},
		{[]int{1, math.MinInt}, 0, api.ErrOver},
		{[]int{math.MinInt, 1}, 0, api.ErrOver},
		{[]int{math.MinInt, math.MinInt}, 0, api.ErrOver},
	} {
		before := slices.Clone(c.l)
		if got, e := money.Sum(c.l); got != c.want || e != c.e {
			t.Errorf("Sum(%d) = %d, %d; want %d, %d", c.l, got, e, c.want, c.e)
		}
		if !slices.Equal(before, c.l) {
			t.Errorf("Sum changed its list: %d, was %d", c.l, before)
		}
	}
}

// P1.2: texts, both ways.
func TestTextAndParse(t *testing.T) {
	for _, c := range []struct {
		n int
		s string
	}{
		{0, "0.00"},
		{1, "0.01"},
		{-1, "-0.01"},
		{-5, "-0.05"},
		{9, "0.09"},
		{10, "0.10"},
		{-10, "-0.10"},
		{99, "0.99"},
		{-99, "-0.99"},
		{100, "1.00"},
		{-100, "-1.00"},
		{101, "1.01"},
		{999, "9.99"},
		{1000, "10.00"},
		{1005, "10.05"},
		{10000, "100.00"},
		{123456789, "1234567.89"},
		{-123456789, "-1234567.89"},
		{api.Most - 7, "92233720368547758.00"},
		{api.Most - 8, "92233720368547757.99"},
		{api.Most - 1, "92233720368547758.06"},
		{api.Most, "92233720368547758.07"},
		{1 - api.Most, "-92233720368547758.06"},
		{-api.Most, "-92233720368547758.07"},
	} {
		if s, e := money.Text(c.n); s != c.s || e != api.OK {
			t.Errorf("Text(%d) = %q, %d; want %q", c.n, s, e, c.s)
		}
		if n, ok := money.Parse(c.s); n != c.n || !ok {
			t.Errorf("Parse(%q) = %d, %v; want %d", c.s, n, ok, c.n)
		}
	}
}

// P1.2: no text of what is no amount.
func TestTextOfNoAmount(t *testing.T) {
	if s, e := money.Text(math.MinInt); s != "" || e != api.ErrOver {
		t.Errorf("Text(MinInt) = %q, %d", s, e)
	}
}

// P1.2: texts that are no amount's.
func TestParseOfNoText(t *testing.T) {
	for _, s := range []string{
		"", "-", "--", ".", "..", "-.", "...", ".00", "-.00", ".50", "-.50", "0", "-0", "1", "12", "123", "1234",
		"0.", "1.", "1.5", "1.234", "1.2345", "0.000", "12.3", "1..50", "1.5.0", "1.50.", "1.23.45", "0..0", "1.-5", "1.5-", "1-.50", "1.+5",
		"00.00", "01.50", "00.50", "-01.50", "-00.01", "000.00", "0123.45",
		"-0.00", "--1.00", "--0.01", "+1.00", "+0.00", "-+1.00", "+-1.00",
		"1,50", "1 000.00", "1,000.00", "1_000.00", "1:00", "1/00",
		" 1.00", "1.00 ", "- 1.00", "1. 0", "1 .00", "1.00\n", "\n1.00", "1.00\x00", "\x001.00",
		"a.bc", "1.ab", "x1.00", "1x.00", "0x1.00", "1e2.00", "1.e2", "1e5", "NaN", "/.00", ":.00", "1./0", "1.0:",
		"١.٠٠", "1.0٠", "１.00", "1．00", "−1.00", "1.00€", "\xff.00", "1.\xff\xff",
		"92233720368547758.08", "-92233720368547758.08", "92233720368547758.10", "92233720368547759.00", "-92233720368547759.00",
		"99999999999999999.99", "100000000000000000.00", "184467440737095516.16", "-184467440737095516.17", "922337203685477580.70",
	} {
		if n, ok := money.Parse(s); n != 0 || ok {
			t.Errorf("Parse(%q) = %d, %v", s, n, ok)
		}
	}
}

// P1.2: a long text ends, and wraps round at no length.
func TestParseOfLongText(t *testing.T) {
	for many := range 100 {
		for _, c := range "0123456789" {
			s := strings.Repeat(string(c), many) + ".00"
			want, isAmount := new(big.Int).SetString(strings.Repeat(string(c), many)+"00", 10)
			isAmount = isAmount && many > 0 && (many == 1 || c != '0') && want.Cmp(big.NewInt(api.Most)) <= 0
			n, ok := money.Parse(s)
			if ok != isAmount || ok && n != int(want.Int64()) || !ok && n != 0 {
				t.Errorf("Parse(%q) = %d, %v", s, n, ok)
			}
		}
	}
	if n, ok := money.Parse(strings.Repeat("9", 1<<20) + ".99"); n != 0 || ok {
		t.Errorf("Parse of a long text = %d, %v", n, ok)
	}
}

// P1.2: of all short texts those alone are parsed that are told of an amount.
func TestParseOfShortTexts(t *testing.T) {
	signs := "-+.,019 a"
	texts := []string{""}
	for range 6 {
		next := make([]string, 0, len(texts)*len(signs))
		for _, s := range texts {
			for _, c := range signs {
				next = append(next, s+string(c))
			}
		}
		texts = next
		for _, s := range texts {
			n, ok := money.Parse(s)
			if !ok && n != 0 {
				t.Fatalf("Parse(%q) = %d, false", s, n)
			}
			if told, _ := money.Text(n); ok && told != s {
				t.Fatalf("Parse(%q) = %d, of which the text is %q", s, n, told)
			}
		}
	}
}

// P1.3: what is told is parsed, and the other way round.
func TestTextIsParsedBack(t *testing.T) {
	l := edges()
	for n := -20100; n <= 20100; n++ {
		l = append(l, n)
	}
	for n := 1; n < api.Most/3; n *= 3 {
		l = append(l, n, -n, n+1, -n-1, api.Most-n, n-api.Most)
	}
	for _, n := range l {
		if n == math.MinInt {
			continue
		}
		s, e := money.Text(n)
		if e != api.OK {
			t.Fatalf("Text(%d): error %d", n, e)
		}
		back, ok := money.Parse(s)
		if back != n || !ok {
			t.Fatalf("Parse(%q) = %d, %v; want %d", s, back, ok, n)
		}
		if again, e := money.Text(back); again != s || e != api.OK {
			t.Fatalf("Text(%d) = %q, %d; want %q", back, again, e, s)
		}
	}
}

// P1.3: what is added and taken off is as it was.
func TestAddedAndTakenOff(t *testing.T) {
	for _, a := range edges() {
		for _, b := range edges() {
			if sum, e := money.Add(a, b); e == api.OK {
				if back, e := money.Sub(sum, b); back != a || e != api.OK {
					t.Errorf("Sub(Add(%d, %d), %d) = %d, %d", a, b, b, back, e)
				}
			}
			if less, e := money.Sub(a, b); e == api.OK {
				if back, e := money.Add(less, b); back != a || e != api.OK {
					t.Errorf("Add(Sub(%d, %d), %d) = %d, %d", a, b, b, back, e)
				}
			}
		}
		if n, e := money.Neg(a); e == api.OK {
			if back, e := money.Neg(n); back != a || e != api.OK {
				t.Errorf("Neg(Neg(%d)) = %d, %d", a, back, e)
			}
		}
	}
}
