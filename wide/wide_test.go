package wide_test

import (
	"math"
	"math/big"
	"testing"

	"paymaster/api"
	"paymaster/wide"
)

const modes = 4

// edges are numbers near the bounds, near 0, and near where a product needs a bit more; math.MinInt is no amount.
func edges() []int {
	l := []int{math.MinInt, 0}
	for _, n := range []int{1, 2, 3, 4, 5, 7, 10, 99, 100, 9999, api.Whole, 1<<31 - 1, 1 << 31, 1<<32 - 1, 1 << 32, 1<<32 + 1, 3037000500, 1<<62 - 1, 1 << 62, 1<<62 + 1, api.Most / 3, api.Most - 2, api.Most - 1, api.Most} {
		l = append(l, n, -n)
	}
	return l
}

func whole(n int) *big.Int { return big.NewInt(int64(n)) }

func product(a, b int) *big.Int { return new(big.Int).Mul(whole(a), whole(b)) }

// rounded is n by c, reckoned without bounds: the whole numbers on both sides of it are weighed against each other.
func rounded(n, c *big.Int, mode int) *big.Int {
	near, left := new(big.Int).QuoRem(n, c, new(big.Int))
	if left.Sign() == 0 {
		return near
	}
	far := new(big.Int).Add(near, big.NewInt(int64(n.Sign()*c.Sign())))
	twice := new(big.Int).Lsh(left, 1)
	half := twice.CmpAbs(c)
	switch {
	case mode == api.Down, mode >= api.HalfUp && half < 0, mode == api.HalfEven && half == 0 && near.Bit(0) == 0:
		return near
	}
	return far
}

// exact is the answer that P2.1 asks for, its errors in the order in which they are named.
func exact(a, b, c, mode int) (int, api.Errno) {
	switch {
	case mode < 0 || mode > 3:
		return 0, api.ErrArg
	case a == math.MinInt || b == math.MinInt || c == math.MinInt:
		return 0, api.ErrOver
	case c == 0:
		return 0, api.ErrZero
	}
	n := rounded(product(a, b), whole(c), mode)
	if n.CmpAbs(big.NewInt(api.Most)) > 0 {
		return 0, api.ErrOver
	}
	return int(n.Int64()), api.OK
}

func checkMulDiv(t *testing.T, a, b, c, mode int) {
	t.Helper()
	want, wantErr := exact(a, b, c, mode)
	if got, e := wide.MulDiv(a, b, c, mode); got != want || e != wantErr {
		t.Fatalf("MulDiv(%d, %d, %d, %d) = %d, %d; want %d, %d", a, b, c, mode, got, e, want, wantErr)
	}
}

// P2.1: every mode, with nothing, less than half, half and more than half left over, on both sides of 0.
func TestMulDivModes(t *testing.T) {
	for _, c := range []struct {
		a, b, c                    int
		down, up, halfUp, halfEven int
	}{
		{5, 1, 2, 2, 3, 3, 2},
		{7, 1, 2, 3, 4, 4, 4},
		{1, 1, 2, 0, 1, 1, 0},
		{3, 1, 2, 1, 2, 2, 2},
		{6, 2, 3, 4, 4, 4, 4},
		{0, 9, 4, 0, 0, 0, 0},
		{1, 1, 4, 0, 1, 0, 0},
		{3, 3, 4, 2, 3, 2, 2},
		{3, 5, 4, 3, 4, 4, 4},
		{2, 5, 4, 2, 3, 3, 2},
		{7, 2, 4, 3, 4, 4, 4},
		{2, 1, 5, 0, 1, 0, 0},
		{3, 1, 5, 0, 1, 1, 1},
		{1005, 1250, api.Whole, 125, 126, 126, 126},
		{api.Most, 1, 2, 1<<62 - 1, 1 << 62, 1 << 62, 1 << 62},
		{api.Most - 2, 1, 2, 1<<62 - 2, 1<<62 - 1, 1<<62 - 1, 1<<62 - 2},
		{1, 1, api.Most, 0, 1, 0, 0},
		{1<<62 - 1, 1, api.Most, 0, 1, 0, 0},
		{1 << 62, 1, api.Most, 0, 1, 1, 1},
		{api.Most - 1, 1, api.Most, 0, 1, 1, 1},
	} {
		for mode, want := range []int{c.down, c.up, c.halfUp, c.halfEven} {
			for _, s := range []struct{ a, b, c, of int }{{1, 1, 1, 1}, {-1, 1, 1, -1}, {1, -1, 1, -1}, {1, 1, -1, -1}, {-1, -1, 1, 1}, {-1, 1, -1, 1}, {1, -1, -1, 1}, {-1, -1, -1, -1}} {
				if got, e := wide.MulDiv(s.a*c.a, s.b*c.b, s.c*c.c, mode); got != s.of*want || e != api.OK {
					t.Errorf("MulDiv(%d, %d, %d, %d) = %d, %d; want %d", s.a*c.a, s.b*c.b, s.c*c.c, mode, got, e, s.of*want)
				}
			}
		}
	}
}

// P2.1: all small numbers, held against exact reckoning.
func TestMulDivOfSmallNumbers(t *testing.T) {
	for a := -13; a <= 13; a++ {
		for b := -13; b <= 13; b++ {
			for c := -13; c <= 13; c++ {
				for mode := -1; mode <= modes; mode++ {
					checkMulDiv(t, a, b, c, mode)
				}
			}
		}
	}
}

// P2.1: all edges, wrong ones among them, held against exact reckoning.
func TestMulDivOfEdges(t *testing.T) {
	for _, a := range edges() {
		for _, b := range edges() {
			for _, c := range edges() {
				for mode := -1; mode <= modes; mode++ {
					checkMulDiv(t, a, b, c, mode)
				}
			}
		}
	}
}

// P2.1: numbers of every length, taken from a row that is the same at every run.
func TestMulDivOfManyNumbers(t *testing.T) {
	state := uint64(1)
	next := func() int {
		state = state*6364136223846793005 + 1442695040888963407
		length := state >> 58
		state = state*6364136223846793005 + 1442695040888963407
		return int(int64(state) >> length)
	}
	for range 50000 {
		a, b, c := next(), next(), next()
		for mode := range modes {
			checkMulDiv(t, a, b, c, mode)
			checkMulDiv(t, a, c, c, mode)
		}
	}
}

// P2.1: a product far beyond 63 bits loses nothing; a quotient is told up to Most, and not above.
func TestMulDivAtTheBound(t *testing.T) {
	const low, high = 1<<32 - 1, 1<<32 + 1
	for _, c := range []struct {
		a, b, c int
		want    [modes]int // 0: ErrOver
	}{
		{api.Most, api.Most, api.Most, [modes]int{api.Most, api.Most, api.Most, api.Most}},
		{api.Most, api.Most - 1, api.Most, [modes]int{api.Most - 1, api.Most - 1, api.Most - 1, api.Most - 1}},
		// low times high is twice Most and 1: half above Most.
		{low, high, 2, [modes]int{api.Most}},
		// (2^62 - 1) times 8 is four times Most less 4: Most less 1.
		{1<<62 - 1, 8, 4, [modes]int{api.Most - 1, api.Most - 1, api.Most - 1, api.Most - 1}},
		{api.Most, 3, 3, [modes]int{api.Most, api.Most, api.Most, api.Most}},
		{api.Most, 2, 1, [modes]int{}},
		{api.Most, 3, 2, [modes]int{}},
		{1 << 62, 2, 1, [modes]int{}},
		// Quotients of 2^64 - 1, 2^64 and just below 2^126, that wrap round in 64 bits.
		{low, high, 1, [modes]int{}},
		{1 << 32, 1 << 32, 1, [modes]int{}},
		{api.Most, api.Most, 1, [modes]int{}},
		// 2^65 - 1, by 2: 2^64 - 1 and a half, which wraps round to 0 if it is rounded first.
		{253921, 145295143558111, 2, [modes]int{}},
		{api.Most, api.Most, api.Most - 1, [modes]int{}},
	} {
		for mode, want := range c.want {
			wantErr := api.OK
			if want == 0 {
				wantErr = api.ErrOver
			}
			if got, e := wide.MulDiv(c.a, c.b, c.c, mode); got != want || e != wantErr {
				t.Errorf("MulDiv(%d, %d, %d, %d) = %d, %d; want %d, %d", c.a, c.b, c.c, mode, got, e, want, wantErr)
			}
			if got, e := wide.MulDiv(-c.a, c.b, c.c, mode); got != -want || e != wantErr {
				t.Errorf("MulDiv(%d, %d, %d, %d) = %d, %d; want %d, %d", -c.a, c.b, c.c, mode, got, e, -want, wantErr)
			}
		}
	}
}

// P2.1: a quotient of which a half is left over, just above or just below, and a Most of which 1 more is none.
func TestMulDivAboutHalf(t *testing.T) {
	for _, c := range []int{2, 3, 4, 5, 1000, 1001, api.Whole, 1 << 40, 1<<40 + 1, 1 << 62, api.Most - 1, api.Most} {
		for _, more := range []int{-2, -1, 0, 1, 2} {
			for mode := range modes {
				checkMulDiv(t, c/2+more, 1, c, mode)
				checkMulDiv(t, c/2+more, c+1-c%2, c, mode)
				checkMulDiv(t, api.Most-c/2, 1+c%7, c, mode)
			}
		}
	}
}

// P2.1: of several errors the one named first.
func TestMulDivErrors(t *testing.T) {
	for _, c := range []struct {
		a, b, c, mode int
		want          api.Errno
	}{
		{1, 1, 1, 4, api.ErrArg},
		{1, 1, 1, -1, api.ErrArg},
		{1, 1, 1, math.MaxInt, api.ErrArg},
		{1, 1, 1, math.MinInt, api.ErrArg},
		{1, 1, 1, 1 << 32, api.ErrArg},
		{1, 1, 0, 4, api.ErrArg},
		{math.MinInt, 1, 1, 4, api.ErrArg},
		{math.MinInt, 1, 0, -1, api.ErrArg},
		{api.Most, api.Most, 1, 4, api.ErrArg},
		{math.MinInt, 1, 1, 0, api.ErrOver},
		{1, math.MinInt, 1, 1, api.ErrOver},
		{1, 1, math.MinInt, 2, api.ErrOver},
		{math.MinInt, math.MinInt, math.MinInt, 3, api.ErrOver},
		{math.MinInt, 0, 1, 0, api.ErrOver},
		{0, math.MinInt, 1, 0, api.ErrOver},
		{0, 0, math.MinInt, 0, api.ErrOver},
		{math.MinInt, 1, 2, 0, api.ErrOver},
		{math.MinInt, 1, 0, 0, api.ErrOver},
		{1, math.MinInt, 0, 0, api.ErrOver},
		{1, 1, 0, 0, api.ErrZero},
		{0, 0, 0, 3, api.ErrZero},
		{-api.Most, api.Most, 0, 1, api.ErrZero},
		{api.Most, 2, 1, 2, api.ErrOver},
	} {
		if n, e := wide.MulDiv(c.a, c.b, c.c, c.mode); n != 0 || e != c.want {
			t.Errorf("MulDiv(%d, %d, %d, %d) = %d, %d; want 0, %d", c.a, c.b, c.c, c.mode, n, e, c.want)
		}
	}
}

// P2.2: Cmp, by hand.
func TestCmp(t *testing.T) {
	for _, c := range []struct{ a, b, c, d, want int }{
		{3, 5, 4, 4, -1},
		{4, 4, 3, 5, 1},
		{2, 6, 3, 4, 0},
		{-3, 5, 4, -4, 1},
		{4, -4, -3, 5, -1},
		{-2, 6, 3, -4, 0},
		{-2, -6, 3, 4, 0},
		{0, -5, 0, 3, 0},
		{0, 5, -1, 1, 1},
		{-1, 1, 0, 5, -1},
		{0, 5, 1, 1, -1},
		{1, -1, 1, 1, -1},
		{math.MinInt, 1, 1, math.MinInt, 0},
		{math.MinInt, 1, -api.Most, 1, -1},
		{math.MinInt, -1, api.Most, 1, 1},
		{math.MinInt, math.MinInt, api.Most, api.Most, 1},
		{math.MinInt, math.MinInt, math.MinInt, math.MinInt, 0},
		{math.MinInt, math.MinInt, math.MinInt, api.Most, 1},
		{math.MinInt, api.Most, -api.Most, api.Most, -1},
		{math.MinInt, 2, -1 << 62, 4, 0},
		{math.MinInt, 0, 0, 7, 0},
		// Products whose low 64 bits are the same, or turn the order round.
		{1 << 32, 1 << 32, 0, 0, 1},
		{1 << 32, 1 << 32, 1 << 33, 1 << 32, -1},
		{1 << 32, 1 << 32, 1<<32 - 1, 1<<32 + 1, 1},
		{api.Most, api.Most, api.Most - 1, api.Most, 1},
		{api.Most, api.Most - 2, api.Most - 1, api.Most - 1, -1},
		{api.Most, 2 - api.Most, api.Most - 1, 1 - api.Most, 1},
	} {
		if got := wide.Cmp(c.a, c.b, c.c, c.d); got != c.want {
			t.Errorf("Cmp(%d, %d, %d, %d) = %d; want %d", c.a, c.b, c.c, c.d, got, c.want)
		}
	}
}

// P2.2: all edges, numbers that are no amount among them, held against exact reckoning.
func TestCmpOfEdges(t *testing.T) {
	type pair struct {
		a, b int
		of   *big.Int
	}
	var pairs []pair
	for _, a := range edges() {
		for _, b := range edges() {
			pairs = append(pairs, pair{a, b, product(a, b)})
		}
	}
	for _, p := range pairs {
		for _, q := range pairs {
			if got, want := wide.Cmp(p.a, p.b, q.a, q.b), p.of.Cmp(q.of); got != want {
				t.Fatalf("Cmp(%d, %d, %d, %d) = %d; want %d", p.a, p.b, q.a, q.b, got, want)
			}
		}
	}
}

func distance(n int) int { return max(n, -n) }

// P2.3: Down is never farther from 0 than the others, Up never nearer; all are at most 1 apart.
func TestModesAreNearEachOther(t *testing.T) {
	for _, a := range edges() {
		for _, b := range edges() {
			for _, c := range edges() {
				up, e := wide.MulDiv(a, b, c, api.Up)
				if e != api.OK {
					continue
				}
				down, e := wide.MulDiv(a, b, c, api.Down)
				if e != api.OK || distance(up)-distance(down) > 1 {
					t.Fatalf("%d, %d, %d: Down %d, error %d; Up %d", a, b, c, down, e, up)
				}
				for mode := range modes {
					n, e := wide.MulDiv(a, b, c, mode)
					if e != api.OK || n != down && n != up || distance(n) < distance(down) || distance(n) > distance(up) {
						t.Fatalf("%d, %d, %d: Down %d, Up %d; mode %d: %d, error %d", a, b, c, down, up, mode, n, e)
					}
				}
			}
		}
	}
}

// P2.3, with P2.2: no quotient is farther from 0 than what is divided, rounded Down, nor nearer, rounded Up.
func TestQuotientTimesDivisor(t *testing.T) {
	for _, a := range edges() {
		for _, b := range edges() {
			for _, c := range edges() {
				if down, e := wide.MulDiv(a, b, c, api.Down); e == api.OK {
					if wide.Cmp(distance(down), distance(c), distance(a), distance(b)) > 0 {
						t.Fatalf("MulDiv(%d, %d, %d, Down) = %d", a, b, c, down)
					}
				}
				if up, e := wide.MulDiv(a, b, c, api.Up); e == api.OK {
					if wide.Cmp(distance(up), distance(c), distance(a), distance(b)) < 0 {
						t.Fatalf("MulDiv(%d, %d, %d, Up) = %d", a, b, c, up)
					}
				}
			}
		}
	}
}
