package garnish_test

import (
	"fmt"
	"math/big"
	"slices"
	"testing"

	"paymaster/api"
	"paymaster/garnish"
)

// A second telling, by other means than the package's: orders are picked from those not yet served, the ones of
// the least Priority together, and what is short is shared as fractions, whose greatest rest is looked for each time anew.

// want is what an order may be paid at most.
func want(o api.Order) int {
	if o.Balance < o.Claim {
		return o.Balance
	}
	return o.Claim
}

// exactServe is what each order is paid, of arguments that are right.
func exactServe(net, protected int, l []api.Order) []int {
	paid := make([]int, len(l))
	there := net - protected
	served := make([]bool, len(l))
	for range l {
		var next []int
		for i, o := range l {
			switch {
			case served[i] || len(next) > 0 && o.Priority > l[next[0]].Priority:
			case len(next) == 0 || o.Priority < l[next[0]].Priority:
				next = []int{i}
			default:
				next = append(next, i)
			}
		}
		for _, i := range next {
			served[i] = true
		}
		there = pay(paid, there, l, next)
	}
	return paid
}

// pay pays the orders at places, and tells what is there behind them.
func pay(paid []int, there int, l []api.Order, places []int) int {
	all := 0
	for _, i := range places {
		all += want(l[i])
	}
	if there <= 0 {
		return 0
	}
	if all <= there {
		for _, i := range places {
			paid[i] = want(l[i])
		}
		return there - all
	}
	rests := make([]*big.Rat, len(places))
	short := there
	for j, i := range places {
		share := new(big.Rat).Mul(big.NewRat(int64(there), int64(all)), big.NewRat(int64(want(l[i])), 1))
		down := new(big.Int).Quo(share.Num(), share.Denom())
		rests[j] = share.Sub(share, new(big.Rat).SetInt(down))
		paid[i] = int(down.Int64())
		short -= paid[i]
	}
	for ; short > 0; short-- {
		most := slices.MaxFunc(rests, (*big.Rat).Cmp)
		j := slices.Index(rests, most)
		paid[places[j]]++
		rests[j] = big.NewRat(-1, 1)
	}
	return 0
}

// exactError is the error named first, of one list of all amounts that may not be below 0.
func exactError(net, protected int, l []api.Order) api.Errno {
	amounts := []int{protected}
	for _, o := range l {
		amounts = append(amounts, o.Claim, o.Balance)
	}
	switch {
	case len(l) > 8:
		return api.ErrLong
	case slices.Min(amounts) < 0:
		return api.ErrArg
	case slices.Max(append(amounts, net)) > 1<<50 || net < -1<<50:
		return api.ErrOver
	}
	return api.OK
}

// exactPaid are the orders behind what was paid; none, if that was not right.
func exactPaid(l []api.Order, paid []int) ([]api.Order, bool) {
	if len(l) != len(paid) {
		return nil, false
	}
	var left []api.Order
	for i, o := range l {
		if paid[i] < 0 || paid[i] > o.Balance {
			return nil, false
		}
		left = append(left, api.Order{Creditor: o.Creditor, Priority: o.Priority, Claim: o.Claim, Balance: o.Balance - paid[i]})
	}
	return left, true
}

// isServed holds the answer of Serve against that list, and sees that nothing changed.
func isServed(t *testing.T, net, protected int, l []api.Order, want ...int) {
	t.Helper()
	before := fmt.Sprint(l)
	if paid, e := garnish.Serve(net, protected, l); !slices.Equal(paid, want) || e != api.OK {
		t.Fatalf("Serve(%d, %d, %v): %v, %d, not %v", net, protected, l, paid, e, want)
	}
	if fmt.Sprint(l) != before {
		t.Fatalf("the orders changed: %v, were %v", l, before)
	}
}

// isNotServed: Serve answers that error, and nothing else.
func isNotServed(t *testing.T, net, protected int, l []api.Order, f api.Errno) {
	t.Helper()
	before := fmt.Sprint(l)
	if paid, e := garnish.Serve(net, protected, l); len(paid) > 0 || e != f {
		t.Errorf("Serve(%d, %d, %v): %v, %d, not none, %d", net, protected, l, paid, e, f)
	}
	if fmt.Sprint(l) != before {
		t.Errorf("the orders changed: %v, were %v", l, before)
	}
}

// serves holds the answer of Serve against the second telling, whatever it is.
func serves(t *testing.T, net, protected int, l []api.Order) {
	t.Helper()
	if f := exactError(net, protected, l); f != api.OK {
		isNotServed(t, net, protected, l, f)
		return
	}
	isServed(t, net, protected, l, exactServe(net, protected, l)...)
}

// pays holds the answer of Paid against the second telling, whatever it is.
func pays(t *testing.T, l []api.Order, paid []int) {
	t.Helper()
	before := fmt.Sprint(l, paid)
	left, ok := exactPaid(l, paid)
	if got, is := garnish.Paid(l, paid); !slices.Equal(got, left) || is != ok {
		t.Errorf("Paid(%v, %v): %v, %v, not %v, %v", l, paid, got, is, left, ok)
	}
	if fmt.Sprint(l, paid) != before {
		t.Errorf("what was handed in changed: %v, %v, were %v", l, paid, before)
	}
}

// Strewn orders of all sizes, of few Priorities and many, and nets at and about what one Priority after the other wants.

type strewn uint64

func (g *strewn) below(n int) int {
	*g = *g*6364136223846793005 + 1442695040888963407
	return int(*g>>33) % n
}

// amount is from 0 on, of a size that is strewn, at most 2^50.
func (g *strewn) amount() int {
	return (g.below(1<<30)<<20 + g.below(1<<20) + g.below(2)) >> g.below(50)
}

func (g *strewn) orders() []api.Order {
	var l []api.Order
	many, small := 1+g.below(8), g.below(2) == 0
	for range g.below(9) {
		o := api.Order{Creditor: g.below(100) - 50, Priority: g.below(many) - 2, Claim: g.amount(), Balance: g.amount()}
		if small {
			o.Claim, o.Balance = g.below(20), g.below(20)
		}
		switch g.below(9) {
		case 0:
			o.Claim = 0
		case 1:
			o.Balance = 0
		case 2:
			o.Balance = o.Claim
		}
		l = append(l, o)
	}
	return l
}

// steps are what there has to be, for the orders of all Priorities up to one of them.
func steps(l []api.Order) []int {
	all := []int{0}
	for _, until := range l {
		sum := 0
		for _, o := range l {
			if o.Priority <= until.Priority {
				sum += want(o)
			}
		}
		all = append(all, sum)
	}
	return all
}

// P15.1, P15.2: strewn orders, served and paid as the second telling does it, month after month.
func TestStrewnMonths(t *testing.T) {
	g := strewn(15)
	for range 6000 {
		l := g.orders()
		for range 1 + g.below(12) {
			there := steps(l)[g.below(len(l)+1)] + g.below(3) - 1
			if g.below(2) == 0 {
				there = g.below(there + 2)
			}
			protected := g.amount()
			net := min(protected+there, 1<<50)
			serves(t, net, protected, l)
			paid, _ := garnish.Serve(net, protected, l)
			pays(t, l, paid)
			l, _ = garnish.Paid(l, paid)
		}
	}
}

// P15.1: small orders of two Priorities, all of them, with all that may be there.
func TestAllSmall(t *testing.T) {
	for n := range 4 * 4 * 4 * 8 {
		l := make([]api.Order, 3)
		for i := range l {
			l[i] = api.Order{Creditor: i, Priority: n >> (6 + i) & 1, Claim: n >> (2 * i) & 3, Balance: 2}
		}
		for net := range 14 {
			serves(t, net, 3, l)
		}
	}
}

// P15.1, P15.2: strewn arguments of which some are wrong.
func TestStrewnFaults(t *testing.T) {
	g := strewn(2)
	odd := []int{-1 << 63, -1<<50 - 1, -1 << 50, -1, 0, 1, 1 << 50, 1<<50 + 1, api.Most}
	some := func(n int) int {
		if g.below(5) == 0 {
			return odd[g.below(len(odd))]
		}
		return n
	}
	for range 30000 {
		l := g.orders()
		if g.below(20) == 0 {
			l = append(l, l...)
		}
		paid := make([]int, max(0, len(l)+g.below(40)/39-g.below(40)/39))
		for i := range paid {
			paid[i] = some(g.below(20))
		}
		pays(t, l, paid)
		for i := range l {
			l[i].Priority = some(l[i].Priority)
			if g.below(4) == 0 {
				l[i].Claim, l[i].Balance = some(l[i].Claim), some(l[i].Balance)
			}
		}
		pays(t, l, paid)
		serves(t, some(g.amount()), some(g.amount()), l)
	}
}
