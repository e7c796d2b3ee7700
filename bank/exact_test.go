package bank_test

import (
	"fmt"
	"math/big"
	"reflect"
	"regexp"
	"slices"
	"strings"
	"testing"

	"paymaster/api"
	"paymaster/bank"
	"paymaster/book"
	"paymaster/master"
)

// A second telling, by other means than the package's: files by sets of what they have, texts by a pattern, all sums as numbers of any size.

const (
	most    = 1 << 50      // of an Amount
	highest = 2147483647   // of a Number
	crowd   = 4999         // of payments
	first   = 22800        // of periods: 1900-01
	last    = 2999*12 + 11 // 2999-12
)

// exactRight is the answer that P22.1 asks for.
func exactRight(f bank.File) bool {
	numbers := map[byte][]int{}
	for i, p := range f.Payments {
		if p.Kind != 'E' && p.Kind != 'C' || p.Number <= 0 || p.Number >= 1<<31 || p.Amount <= 0 || p.Amount > most {
			return false
		}
		if p.Kind == 'E' && i > 0 && f.Payments[i-1].Kind == 'C' {
			return false
		}
		numbers[p.Kind] = append(numbers[p.Kind], p.Number)
	}
	for _, l := range numbers {
		rising := slices.Compact(slices.Sorted(slices.Values(l)))
		if !slices.Equal(l, rising) {
			return false
		}
	}
	return f.Period/12 >= 1900 && f.Period/12 <= 2999 && len(f.Payments) < 5000
}

func sum(l []int) *big.Int {
	n := new(big.Int)
	for _, x := range l {
		n.Add(n, big.NewInt(int64(x)))
	}
	return n
}

// exactWrite is the answer that P22.1 asks for.
func exactWrite(f bank.File) (string, api.Errno) {
	if !exactRight(f) {
		return "", api.ErrArg
	}
	lines, amounts := []string{fmt.Sprintf("H%05d\n", f.Period)}, []int{}
	for _, p := range f.Payments {
		lines, amounts = append(lines, fmt.Sprintf("%c%010d%016d\n", p.Kind, p.Number, p.Amount)), append(amounts, p.Amount)
	}
	lines = append(lines, fmt.Sprintf("T%04d%020d\n", len(f.Payments), sum(amounts)))
	return strings.Join(lines, ""), api.OK
}

var (
	wholeForm   = regexp.MustCompile(`\AH([0-9]{5})\n((?:[EC][0-9]{26}\n)*)T([0-9]{4})([0-9]{20})\n\z`)
	paymentForm = regexp.MustCompile(`([EC])([0-9]{10})([0-9]{16})\n`)
)

func digits(s string) *big.Int {
	n, _ := new(big.Int).SetString(s, 10)
	return n
}

// exactRead is the answer that P22.1 asks for.
func exactRead(s string) (bank.File, api.Errno) {
	parts := wholeForm.FindStringSubmatch(s)
	if parts == nil {
		return bank.File{}, api.ErrForm
	}
	f, amounts := bank.File{Period: int(digits(parts[1]).Int64())}, []int{}
	for _, l := range paymentForm.FindAllStringSubmatch(parts[2], -1) {
		p := bank.Payment{Kind: l[1][0], Number: int(digits(l[2]).Int64()), Amount: int(digits(l[3]).Int64())}
		f.Payments, amounts = append(f.Payments, p), append(amounts, p.Amount)
	}
	if !exactRight(f) || digits(parts[3]).Cmp(big.NewInt(int64(len(amounts)))) != 0 || digits(parts[4]).Cmp(sum(amounts)) != 0 {
		return bank.File{}, api.ErrForm
	}
	return f, api.OK
}

// isLive tells what layer 17 does of the entry at a place.
func isLive(b book.Book, at int) bool {
	return b.Entries[at].Back == 0 && !slices.ContainsFunc(b.Entries, func(e book.Entry) bool { return e.Back == at+1 })
}

func ordersOf(m master.Master, id int) []api.Order {
	for _, p := range m.People {
		if p.Id == id {
			return p.Orders
		}
	}
	return nil
}

// exactOf is the answer that P22.2 asks for. (Two Nets of one Id are two payments of one Number, which is no file.)
func exactOf(b book.Book, m master.Master, period int) (bank.File, api.Errno) {
	f, wrong := bank.File{Period: period}, false
	owed := map[int][]int{}
	for at, e := range b.Entries {
		if e.Period != period || !isLive(b, at) {
			continue
		}
		if e.R.Net > 0 {
			f.Payments = append(f.Payments, bank.Payment{Kind: 'E', Number: e.Id, Amount: e.R.Net})
		}
		orders := ordersOf(m, e.Id)
		for i, n := range e.R.Garnished {
			if i >= len(orders) {
				wrong = true
				break
			}
			owed[orders[i].Creditor] = append(owed[orders[i].Creditor], n)
		}
	}
	for creditor, l := range owed {
		n := sum(l)
		if n.Sign() > 0 && n.Cmp(big.NewInt(most)) > 0 {
			wrong = true
		} else if n.Sign() > 0 {
			f.Payments = append(f.Payments, bank.Payment{Kind: 'C', Number: creditor, Amount: int(n.Int64())})
		}
	}
	slices.SortFunc(f.Payments, func(a, b bank.Payment) int {
		if a.Kind != b.Kind {
			return strings.Index("EC", string(a.Kind)) - strings.Index("EC", string(b.Kind))
		}
		return big.NewInt(int64(a.Number)).Cmp(big.NewInt(int64(b.Number)))
	})
	if wrong || !exactRight(f) {
		return bank.File{}, api.ErrArg
	}
	return f, api.OK
}

// same: are these one file?
func same(f, g bank.File) bool {
	return f.Period == g.Period && slices.Equal(f.Payments, g.Payments)
}

// isNothing: are all fields as they are without a file?
func isNothing(f bank.File) bool { return f.Period == 0 && len(f.Payments) == 0 }

// holdWrite is Right and Write, held against the second telling; and Read of what is written.
func holdWrite(t *testing.T, f bank.File) (string, api.Errno) {
	t.Helper()
	before := bank.File{Period: f.Period, Payments: slices.Clone(f.Payments)}
	want, fault := exactWrite(f)
	got, e := bank.Write(f)
	if got != want || e != fault {
		t.Fatalf("Write(%.1000v) = %.2000q, %d; want %.2000q, %d", f, got, e, want, fault)
	}
	if is := bank.Right(f); is != (fault == api.OK) {
		t.Fatalf("Right(%.1000v) = %v", f, is)
	}
	if !same(f, before) {
		t.Fatalf("what was handed in is %.1000v now, and was %.1000v", f, before)
	}
	if e == api.OK {
		if back, e := bank.Read(got); !same(back, f) || e != api.OK {
			t.Fatalf("Read(%.2000q) = %.1000v, %d; want %.1000v", got, back, e, f)
		}
	}
	return got, e
}

// holdRead is Read, held against the second telling; and Write of what is read.
func holdRead(t *testing.T, s string) (bank.File, api.Errno) {
	t.Helper()
	want, fault := exactRead(s)
	got, e := bank.Read(s)
	if !same(got, want) || e != fault {
		t.Fatalf("Read(%.2000q) = %.1000v, %d; want %.1000v, %d", s, got, e, want, fault)
	}
	if e == api.OK {
		if text, e := bank.Write(got); text != s || e != api.OK {
			t.Fatalf("Write(%.1000v) = %.2000q, %d; want %.2000q", got, text, e, s)
		}
	}
	return got, e
}

func clonedBook(b book.Book) book.Book {
	var c book.Book
	for _, e := range b.Entries {
		r := &e.R
		r.Lines, r.Paid, r.Owed, r.Garnished = slices.Clone(r.Lines), slices.Clone(r.Paid), slices.Clone(r.Owed), slices.Clone(r.Garnished)
		e.Fixes = slices.Clone(e.Fixes)
		c.Entries = append(c.Entries, e)
	}
	return c
}

func clonedMaster(m master.Master) master.Master {
	var c master.Master
	for _, p := range m.People {
		p.Records, p.Orders = slices.Clone(p.Records), slices.Clone(p.Orders)
		c.People = append(c.People, p)
	}
	return c
}

// holdOf is Of, held against the second telling.
func holdOf(t *testing.T, b book.Book, m master.Master, period int) (bank.File, api.Errno) {
	t.Helper()
	before, people := clonedBook(b), clonedMaster(m)
	want, fault := exactOf(b, m, period)
	got, e := bank.Of(b, m, period)
	if !same(got, want) || e != fault {
		t.Fatalf("Of(%.2000v, %.1000v, %d) = %.1000v, %d; want %.1000v, %d", b, m, period, got, e, want, fault)
	}
	if !reflect.DeepEqual(clonedBook(b), before) || !reflect.DeepEqual(clonedMaster(m), people) {
		t.Fatalf("what was handed in is %.1000v, %.1000v now, and was %.1000v, %.1000v", b, m, before, people)
	}
	return got, e
}
