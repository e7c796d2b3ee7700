package slip_test

import (
	"fmt"
	"math/big"
	"regexp"
	"slices"
	"strings"
	"testing"

	"paymaster/api"
	"paymaster/result"
	"paymaster/slip"
)

// A second telling, by other means than the package's: amounts as numbers of any size, a payslip's text by one template, and texts that
// are read by one expression of all lines.

const (
	mostId = 1<<31 - 1
	first  = 22800 // the first period, 1900-01
	last   = 35999 // the last one, 2999-12
	taken  = " earn pretax post let if then else min max "
)

var (
	namePattern = regexp.MustCompile(`^[a-z][a-z0-9]{0,11}\z`)
	linePattern = regexp.MustCompile(`line (earn|pretax|post) ([a-z0-9]+) ([-.0-9]+)\n`)
	textPattern = slipPattern()
)

// slipPattern is of all that may be a payslip's text, by its form alone.
func slipPattern() *regexp.Regexp {
	const n, number = `(-?(?:0|[1-9][0-9]*)\.[0-9][0-9])`, `([1-9][0-9]*)`
	list := "((?: " + strings.ReplaceAll(n, "(-", "(?:-") + ")*)"
	line := `line (?:earn|pretax|post) [a-z0-9]+ -?[0-9]+\.[0-9][0-9]`
	return regexp.MustCompile(`\Aslip ` + number + ` ` + number + "\n((?:" + line + "\n)*)" +
		"raw " + n + " " + n + " " + n + "\nextra " + n + " " + n + " " + n + "\ntaxable " + n + "\ntax " + n +
		"\npaid" + list + "\nowed" + list + "\ntaken " + n + " " + n + "\ngarnished" + list + "\nnet " + n + " " + n + "\n\\z")
}

func isName(s string) bool {
	return namePattern.MatchString(s) && !strings.Contains(taken, " "+s+" ")
}

func isKind(s string) bool {
	return slices.Contains([]string{"earn", "pretax", "post"}, s)
}

// amount is the text of a number, whatever it is.
func amount(n int) string {
	size := new(big.Int).Abs(big.NewInt(int64(n)))
	whole, rest := new(big.Int).QuoRem(size, big.NewInt(100), new(big.Int))
	sign := ""
	if n < 0 {
		sign = "-"
	}
	return fmt.Sprintf("%s%d.%02d", sign, whole, rest)
}

// amounts are those of a list, each behind a blank.
func amounts(l []int) string {
	s := ""
	for _, n := range l {
		s += " " + amount(n)
	}
	return s
}

func sums(s result.Sums) []int { return []int{s.Gross, s.Pretax, s.Post} }

// all are all amounts of a payslip.
func all(r result.Result) []int {
	l := slices.Concat(sums(r.Raw), sums(r.Extra), []int{r.Taxable, r.Tax, r.Taken, r.Held, r.Net, r.Short}, r.Paid, r.Owed, r.Garnished)
	for _, x := range r.Lines {
		l = append(l, x.Amount)
	}
	return l
}

// exactText is the answer that P20.1 asks for.
func exactText(s slip.Slip) (string, api.Errno) {
	if s.Id <= 0 || s.Id > mostId || s.Period < first || s.Period > last || slices.Contains(all(s.R), -1<<63) {
		return "", api.ErrArg
	}
	lines := ""
	for _, l := range s.R.Lines {
		if !isKind(l.Kind) || !isName(l.Name) {
			return "", api.ErrArg
		}
		lines += fmt.Sprintf("line %s %s %s\n", l.Kind, l.Name, amount(l.Amount))
	}
	r := s.R
	return fmt.Sprintf("slip %d %d\n%sraw%s\nextra%s\ntaxable %s\ntax %s\npaid%s\nowed%s\ntaken%s\ngarnished%s\nnet%s\n", s.Id, s.Period, lines,
		amounts(sums(r.Raw)), amounts(sums(r.Extra)), amount(r.Taxable), amount(r.Tax), amounts(r.Paid), amounts(r.Owed),
		amounts([]int{r.Taken, r.Held}), amounts(r.Garnished), amounts([]int{r.Net, r.Short})), api.OK
}

// sizes are the numbers of texts that have the form of an amount's; false, if one of them is none.
func sizes(texts ...string) ([]int, bool) {
	var l []int
	for _, s := range texts {
		n, ok := new(big.Int).SetString(strings.Replace(s, ".", "", 1), 10)
		if !ok || n.CmpAbs(big.NewInt(api.Most)) > 0 || amount(int(n.Int64())) != s {
			return nil, false
		}
		l = append(l, int(n.Int64()))
	}
	return l, true
}

// exactLines are those of their texts; false, if one of them is none.
func exactLines(text string) ([]result.Line, bool) {
	var l []result.Line
	for _, m := range linePattern.FindAllStringSubmatch(text, -1) {
		n, ok := sizes(m[3])
		if !ok || !isName(m[2]) {
			return nil, false
		}
		l = append(l, result.Line{Kind: m[1], Name: m[2], Amount: n[0]})
	}
	return l, true
}

// exactRead is the answer that P20.1 asks for.
func exactRead(text string) (slip.Slip, api.Errno) {
	m := textPattern.FindStringSubmatch(text)
	if m == nil || len(m[1]) > 10 || len(m[2]) > 5 {
		return slip.Slip{}, api.ErrForm
	}
	var s slip.Slip
	fmt.Sscan(m[1], &s.Id)
	fmt.Sscan(m[2], &s.Period)
	lines, ok := exactLines(m[3])
	n, ok2 := sizes(slices.Concat(m[4:12], m[14:16], m[17:19])...)
	paid, ok3 := sizes(strings.Fields(m[12])...)
	owed, ok4 := sizes(strings.Fields(m[13])...)
	garnished, ok5 := sizes(strings.Fields(m[16])...)
	if !ok || !ok2 || !ok3 || !ok4 || !ok5 || s.Id > mostId || s.Period < first || s.Period > last {
		return slip.Slip{}, api.ErrForm
	}
	s.R = result.Result{Lines: lines, Raw: result.Sums{Gross: n[0], Pretax: n[1], Post: n[2]}, Extra: result.Sums{Gross: n[3], Pretax: n[4], Post: n[5]},
		Taxable: n[6], Tax: n[7], Paid: paid, Owed: owed, Taken: n[8], Held: n[9], Garnished: garnished, Net: n[10], Short: n[11]}
	return s, api.OK
}

// same: a list that is nil and one that is empty are the same.
func same(a, b slip.Slip) bool {
	x, y := a.R, b.R
	return a.Id == b.Id && a.Period == b.Period && slices.Equal(x.Lines, y.Lines) && x.Raw == y.Raw && x.Extra == y.Extra &&
		x.Taxable == y.Taxable && x.Tax == y.Tax && slices.Equal(x.Paid, y.Paid) && slices.Equal(x.Owed, y.Owed) &&
		x.Taken == y.Taken && x.Held == y.Held && slices.Equal(x.Garnished, y.Garnished) && x.Net == y.Net && x.Short == y.Short
}

// cloned shares nothing with s.
func cloned(s slip.Slip) slip.Slip {
	s.R.Lines = slices.Clone(s.R.Lines)
	s.R.Paid, s.R.Owed, s.R.Garnished = slices.Clone(s.R.Paid), slices.Clone(s.R.Owed), slices.Clone(s.R.Garnished)
	return s
}

// hold is Text, held against the second telling, and Read of what is written (P20.2).
func hold(t *testing.T, s slip.Slip) api.Errno {
	t.Helper()
	before := cloned(s)
	want, f := exactText(s)
	got, e := slip.Text(s)
	if got != want || e != f {
		t.Fatalf("Text(%.2000v) = %.2000q, %d; want %.2000q, %d", s, got, e, want, f)
	}
	if !same(s, before) {
		t.Fatalf("what was handed in is %.2000v now, and was %.2000v", s, before)
	}
	if e == api.OK {
		if back, e := slip.Read(got); !same(back, s) || e != api.OK {
			t.Fatalf("Read(%.2000q) = %.2000v, %d; it was written of %.2000v", got, back, e, s)
		}
	}
	return e
}

// holdRead is Read, held against the second telling, and Text of what is read (P20.2).
func holdRead(t *testing.T, text string) api.Errno {
	t.Helper()
	want, f := exactRead(text)
	got, e := slip.Read(text)
	if !same(got, want) || e != f {
		t.Fatalf("Read(%.2000q) = %.2000v, %d; want %.2000v, %d", text, got, e, want, f)
	}
	if e == api.OK {
		if back, e := slip.Text(got); back != text || e != api.OK {
			t.Fatalf("Text(%.2000v) = %.2000q, %d; it was read of %.2000q", got, back, e, text)
		}
	}
	return e
}
