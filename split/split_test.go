package split_test

import (
	"math"
	"math/big"
	"slices"
	"testing"

	"paymaster/api"
	"paymaster/split"
)

// repeated are many weights that are alike.
func repeated(weight, many int) []int { return slices.Repeat([]int{weight}, many) }

// counted are the weights 0, 1, 2 and so on.
func counted(many int) []int {
	l := make([]int, many)
	for i := range l {
		l[i] = i
	}
	return l
}

// totals are numbers near the bounds, near 0, near 60, and in between; some are below 0.
func totals() []int {
	return []int{math.MinInt, -api.Most, -1 << 32, -100, -1, 0, 1, 2, 3, 7, 10, 29, 30, 31, 59, 60, 61, 99, 100, 101, 1770, 99999, 123456789, 1<<31 - 1, 1 << 32, 1<<62 - 1, 1 << 62, api.Most / 60, api.Most / 3, api.Most - 60, api.Most - 59, api.Most - 2, api.Most - 1, api.Most}
}

// someWeights are lists of weights, of which some are too many, below 0, no amount together, or 0 together.
func someWeights() [][]int {
	return [][]int{
		nil, {}, {0}, {1}, {2}, {7}, {-1}, {math.MinInt}, {api.Most}, {-api.Most},
		{0, 0}, {0, 1}, {1, 0}, {1, 1}, {1, -1}, {-1, 1}, {3, 4}, {2, 2}, {api.Most, 0}, {api.Most, 1}, {1, api.Most}, {api.Most, api.Most}, {api.Most - 1, 1}, {1, api.Most - 1}, {api.Most - 1, 2}, {math.MinInt, math.MinInt},
		{1 << 62, 1 << 62}, {1 << 62, 1<<62 - 1}, {1<<62 - 1, 1 << 62}, {1<<62 - 1, 1<<62 - 1},
		{1, 1, 1}, {1, 2, 3}, {3, 2, 1}, {3, 3, 1}, {0, 0, 5}, {0, 5, 0}, {5, 0, 0}, {0, 3, 0, 3, 0, 3, 0}, {1, 1, 2, 2, 3, 3}, {5, 3, 5, 3, 5}, {1, 10, 100, 1000, 10000}, {7, 11, 13, 17, 19, 23},
		{api.Most / 3, api.Most / 3, api.Most / 3}, {api.Most / 3, api.Most / 3, api.Most/3 + 1}, {api.Most / 3, api.Most / 3, api.Most/3 + 2}, {api.Most/2 - 1, 1, 0, 2, api.Most/2 - 1}, {1, 1, api.Most - 2}, {1, 1, api.Most - 1}, {api.Most, 1, -1}, {1 << 62, 1 << 62, 1 << 62, 1 << 62}, {api.Most, api.Most, api.Most},
		counted(2), counted(30), counted(60), counted(61), repeated(0, 59), repeated(0, 60), repeated(0, 61), repeated(1, 59), repeated(1, 60), repeated(1, 61), repeated(-1, 60), repeated(-1, 61), repeated(api.Most, 60), repeated(api.Most, 61), repeated(api.Most/60, 60), repeated(api.Most/60+1, 60), repeated(1<<57, 60),
	}
}

func whole(n int) *big.Int { return big.NewInt(int64(n)) }

func added(l []int) *big.Int {
	sum := new(big.Int)
	for _, n := range l {
		sum.Add(sum, whole(n))
	}
	return sum
}

// wrong is the error that P4.1 names first, or OK.
func wrong(total int, weights []int) api.Errno {
	sum := added(weights)
	switch {
	case len(weights) > 60:
		return api.ErrLong
	case total < 0 || len(weights) > 0 && slices.Min(weights) < 0:
		return api.ErrArg
	case sum.Cmp(big.NewInt(api.Most)) > 0:
		return api.ErrOver
	case sum.Sign() == 0:
		return api.ErrZero
	}
	return api.OK
}

// exact are the parts that P4.1 asks for, reckoned without bounds, 1 at a time handed to the greatest remainder.
func exact(total int, weights []int) []int {
	sum := added(weights)
	parts := make([]int, len(weights))
	left := make([]*big.Int, len(weights))
	for i, weight := range weights {
		part, rest := new(big.Int).QuoRem(new(big.Int).Mul(whole(total), whole(weight)), sum, new(big.Int))
		parts[i] = int(part.Int64())
		left[i] = rest
	}
	for added(parts).Cmp(whole(total)) < 0 {
		best := 0
		for i := range left {
			if left[i].Cmp(left[best]) > 0 {
				best = i
			}
		}
		parts[best]++
		left[best] = big.NewInt(-1)
	}
	return parts
}

func checkSplit(t *testing.T, total int, weights []int) {
	t.Helper()
	before := slices.Clone(weights)
	got, e := split.Split(total, weights)
	if !slices.Equal(weights, before) {
		t.Fatalf("Split changed its weights: %d, were %d", weights, before)
	}
	wantErr := wrong(total, weights)
	if wantErr != api.OK {
		if len(got) != 0 || e != wantErr {
			t.Fatalf("Split(%d, %d) = %d, %d; want none, %d", total, weights, got, e, wantErr)
		}
		return
	}
	if want := exact(total, weights); !slices.Equal(got, want) || e != api.OK {
		t.Fatalf("Split(%d, %d) = %d, %d; want %d", total, weights, got, e, want)
	}
}

// P4.1: parts, with weights of 0 among others, and with remainders that are the same.
func TestSplitParts(t *testing.T) {
	for _, c := range []struct {
		total   int
		weights []int
		want    []int
	}{
		{100, []int{1, 1, 1}, []int{34, 33, 33}},
		{101, []int{1, 1, 1}, []int{34, 34, 33}},
		{102, []int{1, 1, 1}, []int{34, 34, 34}},
		{10, []int{1, 2, 3}, []int{2, 3, 5}},
		{10, []int{3, 2, 1}, []int{5, 3, 2}},
		{7, []int{3, 3, 1}, []int{3, 3, 1}},
		{8, []int{1, 3, 3}, []int{1, 4, 3}},
		{100, []int{7, 11, 13}, []int{23, 35, 42}},
		{1, []int{1, 2}, []int{0, 1}},
		{1, []int{2, 1}, []int{1, 0}},
		{1, []int{1, 1}, []int{1, 0}},
		{1, []int{0, 1, 1}, []int{0, 1, 0}},
		{1, []int{49, 51}, []int{0, 1}},
		{1, []int{1, 5, 4}, []int{0, 1, 0}},
		{2, []int{1, 5, 4}, []int{0, 1, 1}},
		{3, []int{1, 5, 4}, []int{0, 2, 1}},
		{3, []int{1, 1, 1, 1, 1}, []int{1, 1, 1, 0, 0}},
		{4, []int{1, 1, 1, 1, 1}, []int{1, 1, 1, 1, 0}},
		{3, []int{5, 2, 5, 2, 2}, []int{1, 1, 1, 0, 0}},
		{5, []int{1, 0, 1}, []int{3, 0, 2}},
		{5, []int{0, 1}, []int{0, 5}},
		{5, []int{1, 0}, []int{5, 0}},
		{7, []int{0, 2, 0, 2, 0, 2, 0}, []int{0, 3, 0, 2, 0, 2, 0}},
		{9, []int{4}, []int{9}},
		{0, []int{4}, []int{0}},
		{0, []int{3, 4}, []int{0, 0}},
		{0, []int{0, 4, 0}, []int{0, 0, 0}},
		{0, []int{api.Most}, []int{0}},
		{60, []int{20, 40}, []int{20, 40}},
		{1, repeated(1, 60), append([]int{1}, repeated(0, 59)...)},
		{59, repeated(1, 60), append(repeated(1, 59), 0)},
		{60, repeated(7, 60), repeated(1, 60)},
		{61, repeated(7, 60), append([]int{2}, repeated(1, 59)...)},
		{1770, counted(60), counted(60)},
	} {
		if got, e := split.Split(c.total, c.weights); !slices.Equal(got, c.want) || e != api.OK {
			t.Errorf("Split(%d, %d) = %d, %d; want %d", c.total, c.weights, got, e, c.want)
		}
	}
}

// P4.1: parts near the bounds, whose products need more than 64 bits.
func TestSplitOfGreatNumbers(t *testing.T) {
	for _, c := range []struct {
		total   int
		weights []int
		want    []int
	}{
		{api.Most, []int{1}, []int{api.Most}},
		{api.Most, []int{api.Most}, []int{api.Most}},
		{api.Most, []int{0, api.Most}, []int{0, api.Most}},
		{api.Most, []int{1, 1}, []int{1 << 62, 1<<62 - 1}},
		{api.Most, []int{1 << 62, 1<<62 - 1}, []int{1 << 62, 1<<62 - 1}},
		{api.Most, []int{1<<62 - 1, 1 << 62}, []int{1<<62 - 1, 1 << 62}},
		{api.Most, []int{1, api.Most - 1}, []int{1, api.Most - 1}},
		{api.Most - 1, []int{1, api.Most - 1}, []int{1, api.Most - 2}},
		{api.Most - 1, []int{api.Most - 1, 1}, []int{api.Most - 2, 1}},
		{1, []int{1<<62 - 1, 1 << 62}, []int{0, 1}},
		{1, []int{1 << 62, 1<<62 - 1}, []int{1, 0}},
		{1, []int{1, api.Most - 1}, []int{0, 1}},
		{api.Most, []int{1, 1, 1}, []int{3074457345618258603, 3074457345618258602, 3074457345618258602}},
		{api.Most - 1, []int{1, 1, 1}, []int{3074457345618258602, 3074457345618258602, 3074457345618258602}},
		{api.Most, []int{1, 2}, []int{3074457345618258602, 6148914691236517205}},
		{api.Most, []int{2, 1}, []int{6148914691236517205, 3074457345618258602}},
		{api.Most, repeated(1, 60), append(repeated(153722867280912931, 7), repeated(153722867280912930, 53)...)},
		{api.Most, repeated(api.Most/60, 60), append(repeated(153722867280912931, 7), repeated(153722867280912930, 53)...)},
	} {
		if got, e := split.Split(c.total, c.weights); !slices.Equal(got, c.want) || e != api.OK {
			t.Errorf("Split(%d, %d) = %d, %d; want %d", c.total, c.weights, got, e, c.want)
		}
	}
}

// P4.1: of several errors the one named first.
func TestSplitErrors(t *testing.T) {
	for _, c := range []struct {
		total   int
		weights []int
		want    api.Errno
	}{
		{1, repeated(1, 61), api.ErrLong},
		{1, repeated(1, 1000), api.ErrLong},
		{0, repeated(0, 61), api.ErrLong},
		{-1, repeated(1, 61), api.ErrLong},
		{1, repeated(-1, 61), api.ErrLong},
		{1, repeated(api.Most, 61), api.ErrLong},
		{-1, append(repeated(api.Most, 60), -1), api.ErrLong},
		{-1, []int{1}, api.ErrArg},
		{-api.Most, []int{1}, api.ErrArg},
		{math.MinInt, []int{1}, api.ErrArg},
		{-1, nil, api.ErrArg},
		{-1, []int{0}, api.ErrArg},
		{-1, []int{api.Most, 1}, api.ErrArg},
		{1, []int{-1}, api.ErrArg},
		{1, []int{-1, 2}, api.ErrArg},
		{1, []int{2, -1}, api.ErrArg},
		{1, []int{1, -1}, api.ErrArg},
		{0, []int{1, math.MinInt}, api.ErrArg},
		{1, []int{api.Most, 1, -1}, api.ErrArg},
		{1, []int{math.MinInt, math.MinInt}, api.ErrArg},
		{1, append(repeated(1, 59), -1), api.ErrArg},
		{1, []int{api.Most, 1}, api.ErrOver},
		{0, []int{1, api.Most}, api.ErrOver},
		{1, []int{1 << 62, 1 << 62}, api.ErrOver},
		{1, []int{1 << 62, 1 << 62, 1 << 62, 1 << 62}, api.ErrOver},
		{1, append(repeated(0, 58), api.Most, 1), api.ErrOver},
		{1, repeated(api.Most, 60), api.ErrOver},
		{1, nil, api.ErrZero},
		{0, nil, api.ErrZero},
		{1, []int{}, api.ErrZero},
		{1, []int{0}, api.ErrZero},
		{0, []int{0, 0}, api.ErrZero},
		{api.Most, repeated(0, 60), api.ErrZero},
	} {
		if got, e := split.Split(c.total, c.weights); len(got) != 0 || e != c.want {
			t.Errorf("Split(%d, %d) = %d, %d; want none, %d", c.total, c.weights, got, e, c.want)
		}
	}
}

// P4.1: at all small numbers, wrong ones among them, held against exact reckoning.
func TestSplitOfSmallNumbers(t *testing.T) {
	lists := [][]int{nil}
	for range 4 {
		next := [][]int{}
		for _, l := range lists {
			for weight := -1; weight <= 5; weight++ {
				next = append(next, append(slices.Clone(l), weight))
			}
		}
		lists = next
		for _, l := range lists {
			for total := -1; total <= 16; total++ {
				checkSplit(t, total, l)
			}
		}
	}
}

// P4.1: at all edges, wrong ones among them, held against exact reckoning.
func TestSplitOfEdges(t *testing.T) {
	for _, total := range totals() {
		for _, weights := range someWeights() {
			checkSplit(t, total, weights)
		}
	}
}

// P4.1: at numbers strewn over all sizes, so many that the remainders come in every order.
func TestSplitOfStrewnNumbers(t *testing.T) {
	state := uint64(1)
	next := func() int {
		state = state*6364136223846793005 + 1442695040888963407
		return int(state >> 1)
	}
	for range 20000 {
		many := 1 + next()>>20%60
		shift := next() >> 20 % 63
		weights := make([]int, many)
		for i := range weights {
			weights[i] = next() >> shift / many
		}
		checkSplit(t, next()>>(next()>>20%63), weights)
	}
}

// R1 and R4: the parts are new memory, and the same at every call.
func TestSplitAnswersNewMemory(t *testing.T) {
	weights := []int{1, 2, 3}
	first, _ := split.Split(100, weights)
	second, _ := split.Split(100, weights)
	first[0], first[1], first[2] = -1, -2, -3
	if !slices.Equal(weights, []int{1, 2, 3}) {
		t.Errorf("the weights share memory with the parts: %d", weights)
	}
	if !slices.Equal(second, []int{17, 33, 50}) {
		t.Errorf("two answers share memory: %d", second)
	}
	if third, _ := split.Split(100, weights); !slices.Equal(third, second) {
		t.Errorf("Split(100, %d) = %d, was %d", weights, third, second)
	}
	alike, _ := split.Even(7, 3)
	alike[0] = -1
	if again, _ := split.Even(7, 3); !slices.Equal(again, []int{3, 2, 2}) {
		t.Errorf("two answers of Even share memory: %d", again)
	}
}

// P4.2: parts that are alike.
func TestEvenParts(t *testing.T) {
	for _, c := range []struct {
		total, many int
		want        []int
	}{
		{0, 1, []int{0}},
		{7, 1, []int{7}},
		{api.Most, 1, []int{api.Most}},
		{0, 3, []int{0, 0, 0}},
		{1, 3, []int{1, 0, 0}},
		{2, 3, []int{1, 1, 0}},
		{3, 3, []int{1, 1, 1}},
		{100, 3, []int{34, 33, 33}},
		{101, 3, []int{34, 34, 33}},
		{100000, 12, append(repeated(8334, 4), repeated(8333, 8)...)},
		{api.Most, 2, []int{1 << 62, 1<<62 - 1}},
		{0, 60, repeated(0, 60)},
		{1, 60, append([]int{1}, repeated(0, 59)...)},
		{59, 60, append(repeated(1, 59), 0)},
		{60, 60, repeated(1, 60)},
		{61, 60, append([]int{2}, repeated(1, 59)...)},
		{api.Most, 60, append(repeated(153722867280912931, 7), repeated(153722867280912930, 53)...)},
	} {
		if got, e := split.Even(c.total, c.many); !slices.Equal(got, c.want) || e != api.OK {
			t.Errorf("Even(%d, %d) = %d, %d; want %d", c.total, c.many, got, e, c.want)
		}
	}
}

// P4.2: of several errors the one named first: many below 1, then many above 60, then total.
func TestEvenErrors(t *testing.T) {
	for _, c := range []struct {
		total, many int
		want        api.Errno
	}{
		{1, 0, api.ErrArg},
		{0, 0, api.ErrArg},
		{1, -1, api.ErrArg},
		{1, -60, api.ErrArg},
		{1, -api.Most, api.ErrArg},
		{1, math.MinInt, api.ErrArg},
		{1, -1<<32 + 1, api.ErrArg},
		{-1, 0, api.ErrArg},
		{-1, -1, api.ErrArg},
		{math.MinInt, math.MinInt, api.ErrArg},
		{1, 61, api.ErrLong},
		{0, 61, api.ErrLong},
		{1, 100, api.ErrLong},
		{1, 1 << 32, api.ErrLong},
		{1, 1<<32 + 1, api.ErrLong},
		{1, math.MaxInt, api.ErrLong},
		{-1, 61, api.ErrLong},
		{math.MinInt, math.MaxInt, api.ErrLong},
		{-1, 1, api.ErrArg},
		{-1, 60, api.ErrArg},
		{-api.Most, 2, api.ErrArg},
		{math.MinInt, 60, api.ErrArg},
	} {
		if got, e := split.Even(c.total, c.many); len(got) != 0 || e != c.want {
			t.Errorf("Even(%d, %d) = %d, %d; want none, %d", c.total, c.many, got, e, c.want)
		}
	}
}

// P4.2: Even is Split by weights of 1, at every many and at totals of all sizes.
func TestEvenIsSplitByOnes(t *testing.T) {
	l := totals()
	for total := range 200 {
		l = append(l, total)
	}
	for _, total := range l {
		for many := 1; many <= 60; many++ {
			want, wantErr := split.Split(total, repeated(1, many))
			if got, e := split.Even(total, many); !slices.Equal(got, want) || e != wantErr {
				t.Fatalf("Even(%d, %d) = %d, %d; want %d, %d", total, many, got, e, want, wantErr)
			}
		}
	}
}

// isNear: is the part less than 1, or just 1, from total times weight by sum?
func isNear(part, total, weight int, sum *big.Int) bool {
	off := new(big.Int).Mul(whole(part), sum)
	off.Sub(off, new(big.Int).Mul(whole(total), whole(weight)))
	return off.CmpAbs(sum) <= 0
}

// P4.3: parts are total together, none is farther than 1 from its share, and of a weight of 0 there is none.
func TestPartsAreTheTotal(t *testing.T) {
	for _, total := range totals() {
		for _, weights := range someWeights() {
			parts, e := split.Split(total, weights)
			if e != api.OK {
				continue
			}
			if len(parts) != len(weights) || added(parts).Cmp(whole(total)) != 0 {
				t.Errorf("Split(%d, %d) = %d", total, weights, parts)
				continue
			}
			sum := added(weights)
			for i, part := range parts {
				if !isNear(part, total, weights[i], sum) || weights[i] == 0 && part != 0 || part < 0 {
					t.Errorf("Split(%d, %d) = %d: part %d", total, weights, parts, i)
				}
			}
		}
	}
}

// P4.3: parts of Even are total together, the greater ones first, and at most 1 apart.
func TestEvenPartsAreTheTotal(t *testing.T) {
	for _, total := range totals() {
		for many := 1; many <= 60; many++ {
			parts, e := split.Even(total, many)
			if e != api.OK {
				continue
			}
			if len(parts) != many || added(parts).Cmp(whole(total)) != 0 || parts[0]-parts[many-1] > 1 {
				t.Errorf("Even(%d, %d) = %d", total, many, parts)
			}
			for i := 1; i < many; i++ {
				if parts[i] > parts[i-1] {
					t.Errorf("Even(%d, %d) = %d: part %d", total, many, parts, i)
				}
			}
		}
	}
}
