package bank_test

import (
	"fmt"
	"math"
	"slices"
	"strings"
	"testing"

	"paymaster/api"
	"paymaster/bank"
)

const jan = 24276 // 2023-01

func pay(kind byte, number int, amount int) bank.Payment {
	return bank.Payment{Kind: kind, Number: number, Amount: amount}
}

// of is a file of January.
func of(l ...bank.Payment) bank.File { return bank.File{Period: jan, Payments: l} }

// isText checks that a file has that text.
func isText(t *testing.T, f bank.File, lines ...string) {
	t.Helper()
	want := strings.Join(lines, "\n") + "\n"
	if s, e := holdWrite(t, f); s != want || e != api.OK {
		t.Errorf("Write(%v): %q, %d; want %q", f, s, e, want)
	}
	if g, e := holdRead(t, want); !same(g, f) || e != api.OK {
		t.Errorf("Read(%q): %v, %d", want, g, e)
	}
}

// isNone checks that something is no file.
func isNone(t *testing.T, f bank.File) {
	t.Helper()
	if s, e := holdWrite(t, f); bank.Right(f) || s != "" || e != api.ErrArg {
		t.Errorf("Write(%.1000v): %v, %.1000q, %d", f, bank.Right(f), s, e)
	}
}

// The chapter's example: of no payments H24276, T and 24 noughts.
func TestExample(t *testing.T) {
	want := "H24276\nT" + strings.Repeat("0", 24) + "\n"
	for _, f := range []bank.File{of(), {Period: jan, Payments: []bank.Payment{}}} {
		isText(t, f, strings.Split(strings.TrimSuffix(want, "\n"), "\n")...)
	}
}

// P22.1: files of one payment and several, of both Kinds, with their texts.
func TestTexts(t *testing.T) {
	isText(t, of(pay('E', 7, 120)), "H24276", "E00000000070000000000000120", "T000100000000000000000120")
	isText(t, of(pay('C', 40, 5000)), "H24276", "C00000000400000000000005000", "T000100000000000000005000")
	isText(t, of(pay('E', 3, 1), pay('E', 20, 99), pay('C', 1, 900)), "H24276", "E00000000030000000000000001", "E00000000200000000000000099", "C00000000010000000000000900", "T000300000000000000001000")
	isText(t, of(pay('E', 5, 8), pay('C', 5, 8)), "H24276", "E00000000050000000000000008", "C00000000050000000000000008", "T000200000000000000000016")
	isText(t, of(pay('E', 1, most), pay('E', highest, 1), pay('C', 1, 1), pay('C', highest, most)),
		"H24276", "E00000000011125899906842624", "E21474836470000000000000001", "C00000000010000000000000001", "C21474836471125899906842624", "T000400002251799813685250")
	isText(t, of(pay('C', 999, 1234567890123456>>1)), "H24276", "C00000009990617283945061728", "T000100000617283945061728")
}

// P22.1: periods at their edges and beyond.
func TestPeriods(t *testing.T) {
	for _, period := range []int{first, first + 1, jan, 30000, last - 1, last} {
		isText(t, bank.File{Period: period}, fmt.Sprint("H", period), "T"+strings.Repeat("0", 24))
		isText(t, bank.File{Period: period, Payments: []bank.Payment{pay('E', 1, 1)}}, fmt.Sprint("H", period), "E00000000010000000000000001", "T000100000000000000000001")
	}
	for _, period := range []int{first - 1, last + 1, 0, 1, -1, -jan, 9999, 99999, 100000, 2023, 1<<32 + jan, 1<<16 + jan, math.MaxInt, math.MinInt} {
		isNone(t, bank.File{Period: period})
		isNone(t, bank.File{Period: period, Payments: []bank.Payment{pay('E', 1, 1)}})
	}
	isNone(t, bank.File{})
}

// P22.1: each field of a payment at its edges and beyond, wherever the payment stands.
func TestFields(t *testing.T) {
	for _, c := range []struct {
		p     bank.Payment
		right bool
	}{
		{pay('E', 500, 500), true}, {pay('C', 500, 500), true},
		{pay('E', 1<<30, most), true}, {pay('C', 1<<30, most), true}, {pay('E', 500, most-1), true}, {pay('C', 500, 1), true}, {pay('E', 500, 1), true},
		{pay('E', highest-1, 7), true}, {pay('C', highest-1, 7), true}, {pay('E', 2, 7), true}, {pay('C', 2, 7), true},
		{pay(0, 500, 500), false}, {pay('e', 500, 500), false}, {pay('c', 500, 500), false}, {pay('D', 500, 500), false}, {pay('F', 500, 500), false}, {pay('B', 500, 500), false}, {pay('H', 500, 500), false}, {pay('T', 500, 500), false}, {pay('\n', 500, 500), false}, {pay(' ', 500, 500), false}, {pay(0xc5, 500, 500), false}, {pay(255, 500, 500), false},
		{pay('E', 500, 0), false}, {pay('C', 500, 0), false}, {pay('E', 500, -1), false}, {pay('C', 500, -1), false}, {pay('E', 500, most+1), false}, {pay('C', 500, most+1), false}, {pay('E', 500, math.MaxInt), false}, {pay('C', 500, math.MinInt), false}, {pay('E', 500, 1e16), false}, {pay('C', 500, -most), false},
		{pay('E', 0, 500), false}, {pay('C', 0, 500), false}, {pay('E', -1, 500), false}, {pay('C', -1, 500), false}, {pay('E', highest+1, 500), false}, {pay('C', highest+1, 500), false}, {pay('E', 1<<32+500, 500), false}, {pay('C', math.MaxInt, 500), false}, {pay('E', math.MinInt, 500), false}, {pay('E', -highest, 500), false}, {pay('C', 9999999999, 500), false},
		{pay('E', 0, 0), false}, {bank.Payment{}, false},
	} {
		t.Run(fmt.Sprint(c.p), func(t *testing.T) {
			l := []bank.File{of(c.p)}
			if c.p.Kind == 'C' {
				l = append(l, of(pay('E', highest, 1), c.p), of(pay('E', 1, most), pay('C', 1, 1), c.p), of(pay('E', 1, most), c.p, pay('C', highest, 1)))
			} else {
				l = append(l, of(c.p, pay('C', 1, 1)), of(pay('E', 1, most), c.p, pay('C', 1, 1)), of(c.p, pay('E', highest, 1)))
			}
			for _, f := range l {
				if !c.right {
					isNone(t, f)
				} else if _, e := holdWrite(t, f); !bank.Right(f) || e != api.OK {
					t.Errorf("Write(%v): %d", f, e)
				}
			}
		})
	}
	for _, f := range []bank.File{of(pay('E', 1, 1)), of(pay('C', 1, 1)), of(pay('E', highest, 1)), of(pay('C', highest, 1)), of(pay('E', highest, most), pay('C', highest, most))} {
		if _, e := holdWrite(t, f); e != api.OK {
			t.Errorf("Write(%v): %d", f, e)
		}
	}
}

// P22.1: payments in all orders: one of them is a file's.
func TestOrders(t *testing.T) {
	l := []bank.Payment{pay('E', 2, 9), pay('E', 10, 5), pay('C', 2, 7), pay('C', 3, 1)}
	isText(t, of(l...), "H24276", "E00000000020000000000000009", "E00000000100000000000000005", "C00000000020000000000000007", "C00000000030000000000000001", "T000400000000000000000022")
	rights := 0
	for a := range l {
		for b := range l {
			for c := range l {
				for d := range l {
					f := of(l[a], l[b], l[c], l[d])
					if a < b && b < c && c < d {
						rights++
						holdWrite(t, f)
					} else {
						isNone(t, f)
					}
				}
			}
		}
	}
	if rights != 1 {
		t.Errorf("%d orders are right", rights)
	}
}

// P22.1: two of one Kind and Number, the same or with other Amounts, beside one another and farther.
func TestDoubles(t *testing.T) {
	for _, kind := range []byte("EC") {
		isNone(t, of(pay(kind, 7, 5), pay(kind, 7, 5)))
		isNone(t, of(pay(kind, 7, 5), pay(kind, 7, 6)))
		isNone(t, of(pay(kind, 7, 6), pay(kind, 7, 5)))
		isNone(t, of(pay(kind, 1, 5), pay(kind, 7, 5), pay(kind, 7, 5), pay(kind, 8, 5)))
		isNone(t, of(pay(kind, 7, 5), pay(kind, 8, 5), pay(kind, 7, 5)))
		isNone(t, of(pay(kind, 8, 5), pay(kind, 7, 5)))
		isNone(t, of(pay(kind, highest, 5), pay(kind, 1, 5)))
	}
	isNone(t, of(pay('C', 7, 5), pay('E', 7, 5)))
	isNone(t, of(pay('C', 7, 5), pay('E', 8, 5)))
	isNone(t, of(pay('C', 8, 5), pay('E', 7, 5)))
	isNone(t, of(pay('E', 7, 5), pay('C', 1, 5), pay('E', 8, 5)))
	isNone(t, of(pay('E', 7, 5), pay('C', 1, 5), pay('E', 7, 5)))
}

// many are so many payments, the first ones of E, all of that Amount.
func many(people int, creditors int, amount int) []bank.Payment {
	var l []bank.Payment
	for i := range people {
		l = append(l, pay('E', highest-people+1+i, amount))
	}
	for i := range creditors {
		l = append(l, pay('C', i+1, amount))
	}
	return l
}

// P22.1: 4,999 payments and 5,000; all Amounts, added, where these are as much as they may be.
func TestMany(t *testing.T) {
	for _, people := range []int{0, 1, 50, 2500, crowd - 1, crowd} {
		for _, amount := range []int{1, most} {
			f := of(many(people, crowd-people, amount)...)
			s, e := holdWrite(t, f)
			end := fmt.Sprintf("\nT4999%020d\n", crowd*amount)
			if !bank.Right(f) || e != api.OK || !strings.HasSuffix(s, end) || len(s) != 7+28*crowd+26 {
				t.Errorf("Write of %d, %d: %d", people, amount, e)
			}
			isNone(t, of(many(people, crowd+1-people, amount)...))
		}
		isNone(t, of(many(people, 10*crowd, 1)...))
	}
	if s, _ := holdWrite(t, of(many(1, crowd-1, most)...)); !strings.HasSuffix(s, "\nT499905628373634306277376\n") {
		t.Errorf("Write of the most: %q", s[len(s)-30:])
	}
	for n := range 30 {
		f := of(many(n, n, n+1)...)
		if s, e := holdWrite(t, f); e != api.OK || !strings.HasSuffix(s, fmt.Sprintf("\nT%04d%020d\n", 2*n, 2*n*(n+1))) {
			t.Errorf("Write of %d: %d", n, e)
		}
	}
}

// P22.1: a text of 5,000 payments is no file's, nor are those of far more.
func TestReadTooMany(t *testing.T) {
	for _, n := range []int{crowd + 1, crowd + 2, 9999, 10000, 20000} {
		var s strings.Builder
		s.WriteString("H24276\n")
		for i := range n {
			fmt.Fprintf(&s, "E%010d0000000000000001\n", i+1)
		}
		for _, told := range []int{n, crowd, n % 5000, 0} {
			isNoText(t, s.String()+fmt.Sprintf("T%04d%020d\n", told, n))
			isNoText(t, s.String()+fmt.Sprintf("T%04d%020d\n", told, told))
		}
	}
}

// R1, R4: what is read is new memory, the same again, and lives on whatever somebody writes into another answer.
func TestAgain(t *testing.T) {
	s, e := bank.Write(of(many(3, 3, 9)...))
	if e != api.OK {
		t.Fatalf("Write: %d", e)
	}
	f, _ := holdRead(t, s)
	want := slices.Clone(f.Payments)
	clear(f.Payments)
	f.Payments = append(f.Payments[:2], pay('E', 1, 1))
	g, e := holdRead(t, s)
	if !slices.Equal(g.Payments, want) || g.Period != jan || e != api.OK || len(want) != 6 {
		t.Errorf("Read again: %v, %d", g, e)
	}
	clear(g.Payments)
	if again, e := holdWrite(t, of(want...)); again != s || e != api.OK {
		t.Errorf("Write again: %q, %d", again, e)
	}
}
