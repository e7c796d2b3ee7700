package garnish_test

import (
	"fmt"
	"math"
	"slices"
	"testing"

	"paymaster/api"
	"paymaster/garnish"
)

const (
	near = 1 << 50
	far  = near + 1
)

// order is one of a Priority, a Claim and a Balance.
func order(priority, claim, balance int) api.Order {
	return api.Order{Creditor: 40, Priority: priority, Claim: claim, Balance: balance}
}

// alike are so many orders of one kind.
func alike(n int, o api.Order) []api.Order {
	return slices.Repeat([]api.Order{o}, n)
}

// example is the document's own: 30 by the first Priority, then 40 and 20.
func example() []api.Order {
	return []api.Order{order(1, 30, 1000), order(2, 40, 1000), order(2, 20, 1000)}
}

// P15.1: the document's example, and whatever is there beside it.
func TestServe(t *testing.T) {
	isServed(t, 100, 40, example(), 30, 20, 10)
	for _, c := range []struct {
		there int
		paid  [3]int
	}{
		{0, [3]int{0, 0, 0}}, {1, [3]int{1, 0, 0}}, {29, [3]int{29, 0, 0}}, {30, [3]int{30, 0, 0}}, {31, [3]int{30, 1, 0}}, {32, [3]int{30, 1, 1}},
		{33, [3]int{30, 2, 1}}, {34, [3]int{30, 3, 1}}, {35, [3]int{30, 3, 2}}, {89, [3]int{30, 39, 20}}, {90, [3]int{30, 40, 20}}, {91, [3]int{30, 40, 20}}, {5000, [3]int{30, 40, 20}},
	} {
		isServed(t, 40+c.there, 40, example(), c.paid[:]...)
		isServed(t, c.there, 0, example(), c.paid[:]...)
	}
}

// P15.1: one order is paid its Claim, or its Balance, or what is there, whichever is least.
func TestServeOne(t *testing.T) {
	for claim := range 12 {
		for balance := range 12 {
			for net := -3; net < 20; net++ {
				for _, priority := range []int{-1, 0, 1} {
					isServed(t, net, 4, []api.Order{order(priority, claim, balance)}, max(0, min(claim, balance, net-4)))
				}
			}
		}
	}
}

// P15.1: several orders of one Priority, with Claims above and below their Balances.
func TestServeOfOnePriority(t *testing.T) {
	l := []api.Order{order(3, 50, 10), order(3, 30, 30), order(3, 20, 900)}
	isServed(t, 59, 0, l, 10, 29, 20)
	isServed(t, 60, 0, l, 10, 30, 20)
	isServed(t, 61, 0, l, 10, 30, 20)
	isServed(t, 30, 0, l, 5, 15, 10)
	isServed(t, 32, 0, l, 5, 16, 11)
	isServed(t, 1, 0, l, 0, 1, 0)
	isServed(t, 2, 0, l, 0, 1, 1)
	isServed(t, 3, 0, l, 1, 1, 1)
	isServed(t, 100, 0, alike(3, order(7, 100, 100)), 34, 33, 33)
	isServed(t, 101, 0, alike(3, order(7, 100, 100)), 34, 34, 33)
	isServed(t, 5, 0, alike(8, order(0, 1, 1)), 1, 1, 1, 1, 1, 0, 0, 0)
}

// P15.1: by rising Priority, in whatever order they stand, those of one together though others stand between them.
func TestServeOfSeveralPriorities(t *testing.T) {
	isServed(t, 100, 40, []api.Order{order(2, 40, 1000), order(1, 30, 1000), order(2, 20, 1000)}, 20, 30, 10)
	isServed(t, 65, 0, []api.Order{order(9, 30, 30), order(5, 40, 40), order(9, 15, 99), order(1, 10, 10)}, 10, 40, 5, 10)
	isServed(t, 65, 0, []api.Order{order(1, 30, 30), order(2, 40, 40), order(3, 15, 99), order(4, 10, 10)}, 30, 35, 0, 0)
	isServed(t, 65, 0, []api.Order{order(4, 30, 30), order(3, 40, 40), order(2, 15, 99), order(1, 10, 10)}, 0, 40, 15, 10)
	isServed(t, 9, 0, []api.Order{order(0, 3, 3), order(-1, 3, 3), order(1, 3, 3), order(-7, 3, 3)}, 3, 3, 0, 3)
	isServed(t, 7, 0, []api.Order{order(math.MaxInt, 3, 3), order(0, 3, 3), order(math.MinInt, 3, 3)}, 1, 3, 3)
	isServed(t, 4, 0, []api.Order{order(math.MaxInt, 3, 3), order(-1, 3, 3), order(math.MinInt, 3, 3)}, 0, 1, 3)
	isServed(t, 5, 0, []api.Order{order(-2, 3, 3), order(-10, 3, 3)}, 2, 3)
}

// P15.1: one Priority short leaves nothing for the later ones, also where it wants more than there is by far.
func TestServeShort(t *testing.T) {
	isServed(t, 10, 0, []api.Order{order(1, 11, 11), order(2, 1, 1)}, 10, 0)
	isServed(t, 10, 0, []api.Order{order(1, near, near), order(2, 1, 1), order(1, near, near)}, 5, 0, 5)
	isServed(t, 10, 0, []api.Order{order(3, 1, 1), order(2, 1, 1), order(1, 11, 11)}, 0, 0, 10)
}

// P15.1: net at, above and below what is protected, and below 0.
func TestServeByNet(t *testing.T) {
	l := []api.Order{order(1, 5, 5), order(2, 5, 5)}
	for _, protected := range []int{0, 1, 40, 1000, near - 20, near} {
		for _, below := range []int{0, 1, 5, protected, protected + 1, protected + 40} {
			isServed(t, protected-below, protected, l, 0, 0)
		}
	}
	isServed(t, 41, 40, l, 1, 0)
	isServed(t, 46, 40, l, 5, 1)
	isServed(t, -near, 0, l, 0, 0)
	isServed(t, -near, near, l, 0, 0)
	isServed(t, -1, 0, l, 0, 0)
}

// P15.1: no orders are served as well, and so are 8; 9 are too many, whatever else is wrong.
func TestServeByNumber(t *testing.T) {
	for _, l := range [][]api.Order{nil, {}} {
		for _, net := range []int{-near, -1, 0, 1, 50, near} {
			isServed(t, net, 0, l)
			isServed(t, net, near, l)
		}
		isNotServed(t, 0, -1, l, api.ErrArg)
		isNotServed(t, far, 0, l, api.ErrOver)
		isNotServed(t, -far, 0, l, api.ErrOver)
		isNotServed(t, 0, far, l, api.ErrOver)
	}
	for n := range 20 {
		for _, o := range []api.Order{order(1, 10, 10), order(2, 0, 0)} {
			l := alike(n, o)
			if n > 8 {
				isNotServed(t, 10000, 0, l, api.ErrLong)
				isNotServed(t, far, -1, alike(n, order(1, -1, far)), api.ErrLong)
			} else {
				isServed(t, 10000, 0, l, slices.Repeat([]int{o.Claim}, n)...)
			}
		}
	}
	isServed(t, 39, 0, alike(8, order(1, 5, 10)), 5, 5, 5, 5, 5, 5, 5, 4)
}

// P15.1: wants of 0, by a Claim or by a Balance, alone and among others.
func TestServeWantsOfNothing(t *testing.T) {
	for _, o := range []api.Order{order(1, 0, 0), order(1, 0, 50), order(1, 50, 0)} {
		for _, net := range []int{-5, 0, 1, 9, 50} {
			isServed(t, net, 0, []api.Order{o}, 0)
			isServed(t, net, 0, alike(8, o), 0, 0, 0, 0, 0, 0, 0, 0)
			isServed(t, net, 0, []api.Order{order(2, 9, 9), o}, max(0, min(9, net)), 0)
			isServed(t, net, 0, []api.Order{order(0, 9, 9), o}, max(0, min(9, net)), 0)
		}
		isServed(t, 5, 0, []api.Order{o, order(1, 4, 4), o, order(1, 4, 4), o}, 0, 3, 0, 2, 0)
		isServed(t, 8, 0, []api.Order{o, order(1, 4, 4), o, order(1, 4, 4), o}, 0, 4, 0, 4, 0)
		isServed(t, 1, 0, []api.Order{o, order(1, 4, 4), o, order(1, 4, 4), o}, 0, 1, 0, 0, 0)
	}
}

// P15.1: what there is as much as the wants of a Priority, one more and one less, up to the bounds of all amounts.
func TestServeAtWants(t *testing.T) {
	for _, n := range []int{1, 2, 7, 30, 1000, near / 4} {
		l := []api.Order{order(5, n, near), order(3, near, n), order(5, n, n)}
		for _, protected := range []int{0, 1, near / 4} {
			isServed(t, protected+n-1, protected, l, 0, n-1, 0)
			isServed(t, protected+n, protected, l, 0, n, 0)
			isServed(t, protected+n+1, protected, l, 1, n, 0)
			isServed(t, protected+3*n-1, protected, l, n, n, n-1)
			isServed(t, protected+3*n, protected, l, n, n, n)
			isServed(t, min(near, protected+3*n+1), protected, l, n, n, n)
		}
	}
}

// P15.1: amounts at 2^50 are served.
func TestServeAtBounds(t *testing.T) {
	isServed(t, near, 0, []api.Order{order(1, near, near)}, near)
	isServed(t, near, 0, []api.Order{order(1, near, near), order(2, near, near)}, near, 0)
	isServed(t, near, 0, alike(8, order(1, near, near)), slices.Repeat([]int{near / 8}, 8)...)
	isServed(t, near, 1, alike(3, order(1, near, near)), near/3, near/3, near/3)
	isServed(t, near, 0, alike(3, order(1, near, near)), near/3+1, near/3, near/3)
	isServed(t, near, near, alike(8, order(1, near, near)), 0, 0, 0, 0, 0, 0, 0, 0)
	isServed(t, near, near-1, alike(2, order(1, near, near)), 1, 0)
	isServed(t, near, 1, []api.Order{order(1, near, near-1)}, near-1)
	isServed(t, near, 1, []api.Order{order(1, near-2, near)}, near-2)
	isServed(t, -near, near, alike(2, order(1, near, near)), 0, 0)
}

// P15.1: each amount alone is wrong below its bound and above it, in whatever order of several it stands.
func TestServeWrong(t *testing.T) {
	for _, n := range []int{far, far + 1, 1 << 51, 1 << 62, api.Most} {
		isNotServed(t, n, 0, example(), api.ErrOver)
		isNotServed(t, -n, 0, example(), api.ErrOver)
		isNotServed(t, 0, n, example(), api.ErrOver)
		isNotServed(t, 100, -n, example(), api.ErrArg)
	}
	isNotServed(t, math.MinInt, 0, example(), api.ErrOver)
	isNotServed(t, 100, math.MinInt, example(), api.ErrArg)
	isNotServed(t, 100, -1, example(), api.ErrArg)
	isNotServed(t, -far, near, example(), api.ErrOver)
	for i := range 8 {
		for _, n := range []int{far, 1 << 62, api.Most, -1, -near, -far, math.MinInt} {
			f := api.ErrOver
			if n < 0 {
				f = api.ErrArg
			}
			for _, o := range []api.Order{order(1, n, 10), order(1, 10, n), order(1, n, n), order(-1, n, 0), order(9, 0, n)} {
				l := alike(8, order(1, 10, 10))
				l[i] = o
				isNotServed(t, 100, 0, l, f)
				isNotServed(t, 0, 100, l, f)
				isNotServed(t, -near, near, l[:i+1], f)
			}
		}
	}
}

// P15.1: of several errors, ErrLong stands ahead of ErrArg, and that ahead of ErrOver, wherever each of them lies.
func TestServeErrorsInOrder(t *testing.T) {
	wrong := []api.Order{order(1, -1, 10), order(1, 10, -1), order(1, far, -1), order(1, -1, far)}
	for _, o := range wrong {
		isNotServed(t, far, far, []api.Order{o}, api.ErrArg)
		isNotServed(t, -far, 0, []api.Order{order(1, far, far), o}, api.ErrArg)
		isNotServed(t, -far, 0, []api.Order{o, order(1, far, far)}, api.ErrArg)
		isNotServed(t, far, -1, alike(9, o), api.ErrLong)
		isNotServed(t, 0, 0, append(alike(8, order(1, 1, 1)), o), api.ErrLong)
	}
	isNotServed(t, far, -1, nil, api.ErrArg)
	isNotServed(t, -far, -1, example(), api.ErrArg)
	isNotServed(t, 0, -1, alike(8, order(1, far, far)), api.ErrArg)
	isNotServed(t, 0, -1, alike(9, order(1, 1, 1)), api.ErrLong)
	isNotServed(t, far, 0, alike(9, order(1, 1, 1)), api.ErrLong)
	isNotServed(t, 0, far, alike(9, order(1, far, 1)), api.ErrLong)
}

// P15.1: what an order is paid hangs on no Creditor.
func TestServeByCreditor(t *testing.T) {
	for _, creditor := range []int{math.MinInt, -1, 0, 1, 40, api.Most} {
		l := example()
		l[1].Creditor = creditor
		isServed(t, 100, 40, l, 30, 20, 10)
		l[0].Creditor, l[2].Creditor = creditor, creditor
		isServed(t, 100, 40, l, 30, 20, 10)
	}
}

// P15.2: the orders, with less to claim.
func TestPaid(t *testing.T) {
	l := []api.Order{{Creditor: 7, Priority: -2, Claim: 100, Balance: 1000}, {Creditor: 8, Priority: 1, Claim: 50, Balance: 30}, {Creditor: -9, Priority: 2, Claim: 0, Balance: 0}}
	for _, paid := range [][]int{{0, 0, 0}, {1, 0, 0}, {100, 30, 0}, {1000, 30, 0}, {999, 29, 0}, {101, 5, 0}} {
		left, ok := garnish.Paid(l, paid)
		want := []api.Order{{Creditor: 7, Priority: -2, Claim: 100, Balance: 1000 - paid[0]}, {Creditor: 8, Priority: 1, Claim: 50, Balance: 30 - paid[1]}, {Creditor: -9, Priority: 2}}
		if !slices.Equal(left, want) || !ok {
			t.Errorf("Paid(%v, %v): %v, %v, not %v", l, paid, left, ok, want)
		}
		pays(t, l, paid)
	}
	for _, paid := range [][]int{{0, 0, 1}, {0, 31, 0}, {1001, 0, 0}, {1001, 31, 1}, {-1, 0, 0}, {0, -1, 0}, {0, 0, -1}, {-1, 31, 0}, {31, -1, 0}, {math.MinInt, 0, 0}, {api.Most, 0, 0}, {0, 0, api.Most}, {0, 0, math.MinInt}} {
		if left, ok := garnish.Paid(l, paid); len(left) > 0 || ok {
			t.Errorf("Paid(%v, %v): %v, %v, not none", l, paid, left, ok)
		}
		pays(t, l, paid)
	}
}

// P15.2: each amount from below 0 to above the Balance, at each place, with a Claim that bounds nothing.
func TestPaidByAmount(t *testing.T) {
	for _, balance := range []int{0, 1, 7, near, far, api.Most} {
		for i := range 4 {
			l := alike(4, order(1, 3, 10))
			l[i] = order(2, 3, balance)
			for _, n := range []int{math.MinInt, -near, -1, 0, 1, 3, 4, balance - 1, balance, balance + 1, api.Most} {
				paid := []int{0, 10, 4, 3}
				paid[i] = n
				left, ok := garnish.Paid(l, paid)
				if ok != (n >= 0 && n <= balance) || ok && left[i] != order(2, 3, balance-n) || !ok && len(left) > 0 {
					t.Errorf("Paid(%v, %v): %v, %v", l, paid, left, ok)
				}
				pays(t, l, paid)
			}
		}
	}
}

// P15.2: lists that are not equally many; those that are, of however many, also none.
func TestPaidByNumber(t *testing.T) {
	for orders := range 20 {
		for amounts := range 20 {
			l, paid := alike(orders, order(1, 1, 9)), slices.Repeat([]int{2}, amounts)
			left, ok := garnish.Paid(l, paid)
			if ok != (orders == amounts) || ok && !slices.Equal(left, alike(orders, order(1, 1, 7))) || !ok && len(left) > 0 {
				t.Errorf("Paid of %d orders and %d amounts: %v, %v", orders, amounts, left, ok)
			}
		}
	}
	for _, l := range [][]api.Order{nil, {}} {
		for _, paid := range [][]int{nil, {}} {
			if left, ok := garnish.Paid(l, paid); len(left) > 0 || !ok {
				t.Errorf("Paid of nothing: %v, %v", left, ok)
			}
		}
		if left, ok := garnish.Paid(l, []int{0}); len(left) > 0 || ok {
			t.Errorf("Paid of no orders: %v, %v", left, ok)
		}
	}
	if left, ok := garnish.Paid(example(), nil); len(left) > 0 || ok {
		t.Errorf("Paid of no amounts: %v, %v", left, ok)
	}
}

// P15.2: an order made by hand, whose Balance is below 0, is paid 0 too much.
func TestPaidOfBalanceBelowZero(t *testing.T) {
	for _, balance := range []int{-1, -near, math.MinInt} {
		for _, n := range []int{math.MinInt, -near, -1, 0, 1, api.Most} {
			if left, ok := garnish.Paid([]api.Order{order(1, 1, balance)}, []int{n}); len(left) > 0 || ok {
				t.Errorf("Paid %d of %d: %v, %v", n, balance, left, ok)
			}
		}
	}
	for _, claim := range []int{-1, far, math.MinInt} {
		if left, ok := garnish.Paid([]api.Order{order(1, claim, 9)}, []int{2}); !ok || !slices.Equal(left, []api.Order{order(1, claim, 7)}) {
			t.Errorf("Paid with a Claim of %d: %v, %v", claim, left, ok)
		}
	}
}

// P15.3: no order is paid more than its want, all not more than there is, a later one only behind all wants ahead.
func TestWhatFollows(t *testing.T) {
	g := strewn(153)
	for range 20000 {
		l := g.orders()
		protected := g.amount()
		there := g.below(steps(l)[g.below(len(l)+1)]+3) - 1
		net := min(near, protected+there)
		paid, e := garnish.Serve(net, protected, l)
		if e != api.OK || len(paid) != len(l) {
			t.Fatalf("Serve(%d, %d, %v): %v, %d", net, protected, l, paid, e)
		}
		all, wanted := 0, 0
		for i, o := range l {
			all += paid[i]
			wanted += want(o)
			if paid[i] < 0 || paid[i] > o.Claim || paid[i] > o.Balance {
				t.Fatalf("Serve(%d, %d, %v): %v, more than order %d wants", net, protected, l, paid, i)
			}
			for j, ahead := range l {
				if paid[i] > 0 && ahead.Priority < o.Priority && paid[j] != want(ahead) {
					t.Fatalf("Serve(%d, %d, %v): %v, order %d ahead of %d", net, protected, l, paid, i, j)
				}
			}
		}
		if all != max(0, min(wanted, net-protected)) {
			t.Fatalf("Serve(%d, %d, %v): %v, %d together", net, protected, l, paid, all)
		}
		if _, ok := garnish.Paid(l, paid); !ok {
			t.Fatalf("Paid(%v, %v): none", l, paid)
		}
	}
}

// P15.3: month by month each order is paid to its end, and not a hundredth more.
func TestUntilAllIsPaid(t *testing.T) {
	l := []api.Order{order(2, 700, 10000), order(1, 3000, 5000), order(2, 300, 1000), order(3, 1, 1)}
	sums := make([]int, len(l))
	for range 40 {
		paid, e := garnish.Serve(4900, 4000, l)
		if e != api.OK {
			t.Fatalf("Serve of %v: %d", l, e)
		}
		for i, n := range paid {
			sums[i] += n
		}
		left, ok := garnish.Paid(l, paid)
		if !ok {
			t.Fatalf("Paid(%v, %v): none", l, paid)
		}
		l = left
	}
	if !slices.Equal(sums, []int{10000, 5000, 1000, 1}) {
		t.Errorf("paid %v, left %v", sums, l)
	}
	isServed(t, near, 0, l, 0, 0, 0, 0)
}

// R1, R4: answers are new memory, and nothing is kept from call to call.
func TestNothingKept(t *testing.T) {
	l, amounts := example(), []int{30, 20, 10}
	for range 2 {
		for _, net := range []int{5000, 100, 0} {
			paid, _ := garnish.Serve(net, 40, l)
			again, _ := garnish.Serve(net, 40, l)
			told := fmt.Sprint(paid)
			for i := range paid {
				paid[i] = -1
			}
			if fmt.Sprint(again) != told {
				t.Errorf("Serve of %d: two answers share a list", net)
			}
		}
		left, _ := garnish.Paid(l, amounts)
		if !slices.Equal(left, []api.Order{order(1, 30, 970), order(2, 40, 980), order(2, 20, 990)}) {
			t.Errorf("Paid: %v", left)
		}
		clear(left)
		if !slices.Equal(l, example()) || !slices.Equal(amounts, []int{30, 20, 10}) {
			t.Errorf("what was handed in changed: %v, %v", l, amounts)
		}
	}
}

// P1: no call panics, and each ends, whatever it is handed.
func TestOddArguments(t *testing.T) {
	odd := []int{math.MinInt, -api.Most, -far, -near, -1, 0, 1, near, far, api.Most}
	for _, n := range odd {
		for _, m := range odd {
			for _, k := range odd {
				for many := range 10 {
					l := alike(many, order(k, n, m))
					serves(t, k, m, l)
					serves(t, m, k, append(l[:many/2:many/2], order(1, 1, 1)))
					pays(t, l, slices.Repeat([]int{k}, many))
				}
			}
		}
	}
	isNotServed(t, 0, 0, make([]api.Order, 1<<16), api.ErrLong)
	pays(t, make([]api.Order, 1<<16), make([]int, 1<<16))
	pays(t, make([]api.Order, 1<<16), make([]int, 1<<16-1))
}
