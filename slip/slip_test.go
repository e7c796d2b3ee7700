package slip_test

import (
	"fmt"
	"math"
	"reflect"
	"slices"
	"strings"
	"testing"
	"unsafe"

	"paymaster/api"
	"paymaster/engine"
	"paymaster/master"
	"paymaster/result"
	"paymaster/slip"
	"paymaster/tree"
	"paymaster/value"
	"paymaster/withhold"
)

const jan = 24276 // 2023-01

// none is the text of a payslip of noughts, of 1 in the first period.
const none = `slip 1 22800
raw 0.00 0.00 0.00
extra 0.00 0.00 0.00
taxable 0.00
tax 0.00
paid
owed
taken 0.00 0.00
garnished
net 0.00 0.00
`

// full is that of a payslip of which no amount is another one.
const full = `slip 2147483647 35999
line earn pay 1.00
line pretax plan2 -0.02
line post abcdefghijkl 3.10
line earn a 4.01
raw 5.55 6.66 -7.77
extra -8.00 0.09 10.10
taxable 11.00
tax -12.34
paid 0.13 -0.14 1500000.15
owed 16.00
taken 17.00 18.00
garnished 19.19 20.20
net 21.00 22.00
`

func fullSlip() slip.Slip {
	return slip.Slip{Id: mostId, Period: last, R: result.Result{
		Lines: []result.Line{{Kind: "earn", Name: "pay", Amount: 100}, {Kind: "pretax", Name: "plan2", Amount: -2}, {Kind: "post", Name: "abcdefghijkl", Amount: 310}, {Kind: "earn", Name: "a", Amount: 401}},
		Raw:   result.Sums{Gross: 555, Pretax: 666, Post: -777}, Extra: result.Sums{Gross: -800, Pretax: 9, Post: 1010},
		Taxable: 1100, Tax: -1234, Paid: []int{13, -14, 150000015}, Owed: []int{1600}, Taken: 1700, Held: 1800, Garnished: []int{1919, 2020}, Net: 2100, Short: 2200,
	}}
}

// some is a payslip that has one line of each Kind, and lists of one and of several.
func some() slip.Slip {
	return slip.Slip{Id: 12, Period: jan, R: result.Result{
		Lines:   []result.Line{{Kind: "earn", Name: "pay", Amount: 100000}, {Kind: "pretax", Name: "plan", Amount: 5000}, {Kind: "post", Name: "meal", Amount: 1000}},
		Raw:     result.Sums{Gross: 100000, Pretax: 5000, Post: 1000},
		Taxable: 95000, Tax: 9500, Paid: []int{500, 700}, Owed: []int{900, 1100}, Taken: 1000, Garnished: []int{2000}, Net: 81300,
	}}
}

// P20.1: texts, to the byte, and what is read of them.
func TestTexts(t *testing.T) {
	few := some()
	few.R.Lines = few.R.Lines[:1]
	few.R.Paid = nil
	for _, c := range []struct {
		s    slip.Slip
		text string
	}{
		{slip.Slip{Id: 1, Period: first}, none},
		{fullSlip(), full},
		{few, "slip 12 24276\nline earn pay 1000.00\nraw 1000.00 50.00 10.00\nextra 0.00 0.00 0.00\ntaxable 950.00\ntax 95.00\npaid\nowed 9.00 11.00\ntaken 10.00 0.00\ngarnished 20.00\nnet 813.00 0.00\n"},
	} {
		if got, e := slip.Text(c.s); got != c.text || e != api.OK {
			t.Errorf("Text(%v) = %q, %d; want %q", c.s, got, e, c.text)
		}
		if got, e := slip.Read(c.text); !same(got, c.s) || e != api.OK {
			t.Errorf("Read(%q) = %v, %d; want %v", c.text, got, e, c.s)
		}
	}
}

// read is the program that is read of a text without a fault.
func read(t *testing.T, s string) tree.Program {
	t.Helper()
	p, at, e := tree.Parse(s)
	if e != api.OK {
		t.Fatalf("Parse(%.300q): %d, %d", s, at, e)
	}
	return p
}

// works are the results of three months of a year, of a plan of those rules, funds and orders.
func works(t *testing.T, text string, funds []withhold.Fund, orders []api.Order) []result.Result {
	t.Helper()
	p := result.Plan{P: read(t, text), S: withhold.Scheme{Rows: []api.Row{{Above: 0, Rate: 2000}}, Funds: funds}, Protected: 10000}
	var y withhold.Year
	var l []result.Result
	for _, extra := range []result.Sums{{}, {Gross: -100000, Pretax: 1, Post: 30000}, {Gross: 1 << 45, Post: -1 << 45}} {
		r, behind, e := result.Work(p, value.Inputs{Base: 60000, Bonus: 333}, extra, y, orders)
		if e != api.OK {
			t.Fatalf("Work: %d", e)
		}
		l, y = append(l, r), behind
	}
	return l
}

// P20.1, P20.2: payslips of results of layer 16, with no line and several, with funds and creditors and without.
func TestOfResults(t *testing.T) {
	texts := []string{"", "let a = 1;", "earn a = base;", "earn pay = base; pretax plan = base * 10.00%; post meal = 20.00; let x = 1; earn bonuspay = bonus; post back = -base;", "post all = base;"}
	funds := [][]withhold.Fund{nil, {{Rate: 500, Employer: 700, Ceiling: 12000}}, {{Rate: 1}, {}, {Rate: 950, Employer: 1, Ceiling: api.Most}, {}, {Rate: 10}, {Rate: 10000, Employer: 10000, Ceiling: 7}}}
	orders := [][]api.Order{nil, {{Creditor: 40, Priority: 1, Claim: 5000, Balance: 8000}}, {{Creditor: 41, Priority: 2, Claim: 1, Balance: 1}, {Creditor: 42, Priority: 1, Claim: 1 << 40, Balance: 1 << 40}}}
	seen := map[string]int{}
	for i := range len(texts) * len(funds) * len(orders) {
		for _, r := range works(t, texts[i%5], funds[i/5%3], orders[i/15]) {
			if e := hold(t, slip.Slip{Id: 7, Period: jan, R: r}); e != api.OK {
				t.Fatalf("Text of %v: %d", r, e)
			}
			for what, is := range map[string]bool{
				"no line": len(r.Lines) == 0, "lines": len(r.Lines) > 4, "held": r.Held > 0, "short": r.Short > 0, "tax below 0": r.Tax < 0, "taken below 0": r.Taken < 0,
				"no fund": len(r.Paid) == 0, "funds": len(r.Paid) == 6 && len(r.Owed) == 6, "no creditor": len(r.Garnished) == 0, "creditors": len(r.Garnished) == 2 && r.Garnished[1] > 0,
			} {
				if is {
					seen[what]++
				}
			}
		}
	}
	if len(seen) != 10 {
		t.Errorf("not all there: %v", seen)
	}
}

// P20.1, P20.2: payslips of the entries of a book, with one that takes another one back, and with what is put right.
func TestOfEntries(t *testing.T) {
	g := engine.New()
	g.Rules("earn pay = base; pretax plan = 50.00; post meal = 10.00;")
	g.Scheme(withhold.Scheme{Rows: []api.Row{{Above: 0, Rate: 1000}}, Funds: []withhold.Fund{{Rate: 500, Employer: 700, Ceiling: 150000}}}, 20000)
	for id := range 5 {
		g.Hire(id+1, master.Record{From: jan, In: value.Inputs{Base: 30000 * id}})
		g.Claim(id+1, api.Order{Creditor: 40 + id, Priority: 1, Claim: 7000, Balance: 9999})
	}
	for i := range 5 {
		g.Run(jan + i)
		g.Change(i+1, master.Record{From: jan, In: value.Inputs{Base: 11111 * i}})
	}
	g.Reverse()
	entries := g.Book().Entries
	if len(entries) != 30 {
		t.Fatalf("%d entries", len(entries))
	}
	for _, e := range entries {
		if hold(t, slip.Slip{Id: e.Id, Period: e.Period, R: e.R}) != api.OK {
			t.Fatalf("Text of %v", e)
		}
	}
}

// P20.1: Ids and Periods, at and around their bounds: of Text ErrArg, of Read ErrForm.
func TestIdsAndPeriods(t *testing.T) {
	for _, id := range []int{math.MinInt, -mostId, -12, -1, 0, 1, 2, 9, 10, 12, 1 << 30, mostId - 1, mostId, mostId + 1, 1 << 32, 1<<32 + 1, math.MaxInt} {
		for _, period := range []int{math.MinInt, -jan, -1, 0, 1, 5, 1900, 2999, first - 1, first, first + 1, jan, last - 1, last, last + 1, 99999, 1<<32 + jan, math.MaxInt} {
			s := some()
			s.Id, s.Period = id, period
			want, wantRead := api.OK, api.OK
			if id < 1 || id > mostId || period < first || period > last {
				want, wantRead = api.ErrArg, api.ErrForm
			}
			if e := hold(t, s); e != want {
				t.Errorf("Text of %d, %d: %d", id, period, e)
			}
			text := strings.Replace(none, "1 22800", fmt.Sprint(id, period), 1)
			if e := holdRead(t, text); e != wantRead {
				t.Errorf("Read of %d, %d: %d", id, period, e)
			}
		}
	}
}

// places are all amounts of a payslip that are none of a list, and all members of its lists.
func places(s *slip.Slip) []*int {
	r := &s.R
	l := []*int{&r.Raw.Gross, &r.Raw.Pretax, &r.Raw.Post, &r.Extra.Gross, &r.Extra.Pretax, &r.Extra.Post, &r.Taxable, &r.Tax, &r.Taken, &r.Held, &r.Net, &r.Short}
	for i := range r.Lines {
		l = append(l, &r.Lines[i].Amount)
	}
	for _, list := range [][]int{r.Paid, r.Owed, r.Garnished} {
		for i := range list {
			l = append(l, &list[i])
		}
	}
	return l
}

// P20.1: amounts at their limits, above and below 0, and such as are none, in each of a payslip's places.
func TestAmounts(t *testing.T) {
	many := fullSlip()
	for i := range places(&many) {
		for _, n := range []int{-api.Most, -api.Most + 1, -1 << 45, -100, -99, -10, -1, 0, 1, 9, 10, 99, 100, 101, 1 << 45, api.Most - 1, api.Most} {
			s := fullSlip()
			*places(&s)[i] = n
			if e := hold(t, s); e != api.OK {
				t.Errorf("Text with %d at %d: %d", n, i, e)
			}
		}
		s := fullSlip()
		*places(&s)[i] = math.MinInt
		if text, e := slip.Text(s); text != "" || e != api.ErrArg {
			t.Errorf("Text with an amount that is none at %d: %q, %d", i, text, e)
		}
	}
	limits := strings.Replace(none, "net 0.00 0.00", "net 92233720368547758.07 -92233720368547758.07", 1)
	if s, e := slip.Read(limits); s.R.Net != api.Most || s.R.Short != -api.Most || e != api.OK {
		t.Errorf("Read(%q): %v, %d", limits, s, e)
	}
}

// named is a payslip of noughts with one line, of that Kind and Name.
func named(kind, name string) slip.Slip {
	return slip.Slip{Id: 1, Period: first, R: result.Result{Lines: []result.Line{{Kind: kind, Name: name}}}}
}

func namedText(kind, name string) string {
	return strings.Replace(none, "raw", "line "+kind+" "+name+" 0.00\nraw", 1)
}

// P20.1: Names of 1 to 12 bytes, of each first letter, and such as begin as one that is taken.
func TestNames(t *testing.T) {
	l := []string{"a", "z", "a0", "z9", "abcdefghijkl", "a23456789012", "zzzzzzzzzzzz", "earns", "ea", "pretax1", "pre", "posts", "pos", "lets", "le", "iff", "i", "thenn", "the", "elsee", "els",
		"minn", "mi", "maxx", "ma", "base", "bonus", "hours", "days", "lead", "line", "slip", "raw", "extra", "taxable", "tax", "paid", "owed", "taken", "garnished", "net", "ifthenelse", "minmax"}
	for c := 'a'; c <= 'z'; c++ {
		l = append(l, string(c), strings.Repeat(string(c), 12))
	}
	for _, name := range l {
		for _, kind := range []string{"earn", "pretax", "post"} {
			text, e := slip.Text(named(kind, name))
			if text != namedText(kind, name) || e != api.OK {
				t.Errorf("Text with %s %s: %q, %d", kind, name, text, e)
			}
			if s, e := slip.Read(text); !same(s, named(kind, name)) || e != api.OK {
				t.Errorf("Read with %s %s: %v, %d", kind, name, s, e)
			}
		}
	}
}

// wrongNames are no names of layer 8.
func wrongNames() []string {
	l := strings.Fields(taken)
	return append(l, "", " ", "0", "1", "9a", "10", "A", "Pay", "pAy", "paY", "a_b", "a-b", "a.b", "a b", " a", "a ", "\na", "a\n", "a\t", "\x00", "a\x00", "é", "paé", "\xff", "a\xff", "abcdefghijklm", "a234567890123",
		strings.Repeat("a", 13), strings.Repeat("x", 100000), "#", "a#", "a #b", "a\n#b", "#\na", ";", "a;", "a=", "a=1;let b", "a = 0;#", "a=0;let a", "=", "a=0;\n#", "if a", "let", "(a)", "-a", "a*b", "1.00", "5.00%", "Ａ", "а")
}

// P20.1: Kinds and Names that are none, in a line that is alone, and in each of several: of Text ErrArg, of Read ErrForm.
func TestWrongNames(t *testing.T) {
	kinds := []string{"", " ", "let", "Earn", "EARN", "earn ", " earn", "earn\n", "ear", "earns", "pre", "pretax1", "posts", "gross", "if", "min", "a", "earn a", "1", "1.00", "line", "\x00", "\xff"}
	check := func(kind, name string) {
		t.Helper()
		if text, e := slip.Text(named(kind, name)); text != "" || e != api.ErrArg {
			t.Errorf("Text with %q %.50q: %q, %d", kind, name, text, e)
		}
		text := namedText(kind, name)
		if s, e := slip.Read(text); !reflect.DeepEqual(s, slip.Slip{}) || e != api.ErrForm {
			t.Errorf("Read(%.300q): %v, %d", text, s, e)
		}
		for i := range 4 {
			s := fullSlip()
			s.R.Lines[i].Kind, s.R.Lines[i].Name = kind, name
			if e := hold(t, s); e != api.ErrArg {
				t.Errorf("Text with %q %.50q at %d: %d", kind, name, i, e)
			}
		}
	}
	for _, name := range wrongNames() {
		check("earn", name)
		check("let", name)
	}
	for _, kind := range kinds {
		check(kind, "pay")
	}
}

// P20.1: of Text each field that is none answers ErrArg, and nothing else, whatever else is right or wrong.
func TestTextErrArg(t *testing.T) {
	for i, spoil := range []func(s *slip.Slip){
		func(s *slip.Slip) { s.Id = 0 }, func(s *slip.Slip) { s.Id = -1 }, func(s *slip.Slip) { s.Id = mostId + 1 },
		func(s *slip.Slip) { s.Period = 0 }, func(s *slip.Slip) { s.Period = first - 1 }, func(s *slip.Slip) { s.Period = last + 1 },
		func(s *slip.Slip) { s.R.Lines[0].Kind = "let" }, func(s *slip.Slip) { s.R.Lines[1].Kind = "" },
		func(s *slip.Slip) { s.R.Lines[2].Name = "max" }, func(s *slip.Slip) { s.R.Lines[3].Name = "" }, func(s *slip.Slip) { s.R.Lines[3].Name = "abcdefghijklm" },
		func(s *slip.Slip) { s.R.Lines[3].Amount = math.MinInt }, func(s *slip.Slip) { s.R.Raw.Gross = math.MinInt }, func(s *slip.Slip) { s.R.Extra.Post = math.MinInt },
		func(s *slip.Slip) { s.R.Taxable = math.MinInt }, func(s *slip.Slip) { s.R.Tax = math.MinInt }, func(s *slip.Slip) { s.R.Held = math.MinInt }, func(s *slip.Slip) { s.R.Short = math.MinInt },
		func(s *slip.Slip) { s.R.Paid[2] = math.MinInt }, func(s *slip.Slip) { s.R.Owed[0] = math.MinInt }, func(s *slip.Slip) { s.R.Garnished[1] = math.MinInt },
		func(s *slip.Slip) { *s = slip.Slip{} }, func(s *slip.Slip) { s.Id, s.R.Net = 0, math.MinInt }, func(s *slip.Slip) { s.Period, s.R.Lines[0].Name = 5, "if" },
	} {
		s := fullSlip()
		spoil(&s)
		if e := hold(t, s); e != api.ErrArg {
			t.Errorf("%d: %d", i, e)
		}
	}
}

// P20.1: lists of no members, nil and not, and such as have more than any result has; a Name that stands twice.
func TestLists(t *testing.T) {
	empty := slip.Slip{Id: 1, Period: first, R: result.Result{Lines: []result.Line{}, Paid: []int{}, Owed: []int{}, Garnished: []int{}}}
	if text, e := slip.Text(empty); text != none || e != api.OK {
		t.Errorf("Text of lists of no members: %q, %d", text, e)
	}
	for i := range 8 {
		s := fullSlip()
		for j, list := range []*[]int{&s.R.Paid, &s.R.Owed, &s.R.Garnished} {
			if i>>j&1 == 0 {
				*list = nil
			}
		}
		if e := hold(t, s); e != api.OK {
			t.Errorf("%d: %d", i, e)
		}
	}
	twice := some()
	twice.R.Lines = append(twice.R.Lines, twice.R.Lines...)
	long := slip.Slip{Id: 1, Period: first, R: result.Result{Paid: make([]int, 7), Owed: make([]int, 100), Garnished: make([]int, 9)}}
	for i := range 61 {
		long.R.Lines = append(long.R.Lines, result.Line{Kind: "earn", Name: fmt.Sprint("a", i), Amount: i})
	}
	for _, s := range []slip.Slip{twice, long} {
		if e := hold(t, s); e != api.OK {
			t.Errorf("Text of %v: %d", s, e)
		}
	}
}

// P20.1, P20.2: long ones, of very many lines and very long lists.
func TestLong(t *testing.T) {
	s := slip.Slip{Id: 1, Period: first}
	for i := range 20000 {
		s.R.Lines = append(s.R.Lines, result.Line{Kind: "post", Name: fmt.Sprint("n", i), Amount: -i})
	}
	for i := range 200000 {
		s.R.Paid, s.R.Owed, s.R.Garnished = append(s.R.Paid, i), append(s.R.Owed, -i), append(s.R.Garnished, api.Most-i)
	}
	text, e := slip.Text(s)
	if e != api.OK || strings.Count(text, "\n") != 20010 {
		t.Fatalf("Text: %d bytes, %d", len(text), e)
	}
	if back, e := slip.Read(text); !same(back, s) || e != api.OK {
		t.Errorf("Read: %d", e)
	}
	for _, wrong := range []string{text[:len(text)-1], text + "\n", strings.Repeat(" ", 1<<20), strings.Repeat("\n", 1<<20), strings.Repeat("slip 1 22800\n", 1<<16), strings.Repeat("9", 1<<20)} {
		if s, e := slip.Read(wrong); !reflect.DeepEqual(s, slip.Slip{}) || e != api.ErrForm {
			t.Errorf("Read of %d bytes: %d", len(wrong), e)
		}
	}
}

// R1: Read's lists and texts are new memory, and no two of its lists share any; what was handed in stays as it was.
func TestNewMemory(t *testing.T) {
	text := strings.Clone(full)
	begin := uintptr(unsafe.Pointer(unsafe.StringData(text)))
	s, e := slip.Read(text)
	if e != api.OK {
		t.Fatalf("Read(%q): %d", text, e)
	}
	for _, l := range s.R.Lines {
		for _, word := range []string{l.Kind, l.Name} {
			if p := uintptr(unsafe.Pointer(unsafe.StringData(word))); p >= begin && p < begin+uintptr(len(text)) {
				t.Errorf("%q is a piece of what was handed in", word)
			}
		}
	}
	s.R.Paid = append(s.R.Paid, 1)
	clear(s.R.Owed)
	if s.R.Garnished = append(s.R.Garnished, 2); s.R.Paid[3] != 1 || s.R.Garnished[0] != 1919 || text != full {
		t.Errorf("after writing: %v, of %q", s, text)
	}
	if again, e := slip.Read(text); !same(again, fullSlip()) || e != api.OK {
		t.Errorf("Read again: %v, %d", again, e)
	}
}

// R1, R4: Text keeps nothing of what it was handed, and answers the same again.
func TestTextAgain(t *testing.T) {
	s := fullSlip()
	s.R.Paid = append(make([]int, 0, 10), s.R.Paid...)
	text, _ := slip.Text(s)
	if !slices.Equal(s.R.Paid[:10], []int{13, -14, 150000015, 0, 0, 0, 0, 0, 0, 0}) {
		t.Errorf("behind Paid stands %v", s.R.Paid[:10])
	}
	for _, n := range places(&s) {
		*n = 0
	}
	s.R.Lines[0].Name = "other"
	if other, _ := slip.Text(s); text != full || other == text {
		t.Errorf("%q, and, of noughts, %q", text, other)
	}
	if again, e := slip.Text(fullSlip()); again != full || e != api.OK {
		t.Errorf("Text again: %q, %d", again, e)
	}
}
