package slip_test

import (
	"strings"
	"testing"

	"paymaster/api"
	"paymaster/result"
	"paymaster/slip"
)

// Strewn payslips, right and wrong ones, and strewn texts: all told as the second telling tells them.

type strewn uint64

func (g *strewn) below(n int) int {
	*g = *g*6364136223846793005 + 1442695040888963407
	return int(*g>>33) % n
}

func (g *strewn) of(l ...string) string { return l[g.below(len(l))] }

// amount is of a size that is strewn, above or below 0; an edge now and then.
func (g *strewn) amount() int {
	n := (g.below(1<<31)<<32 + g.below(1<<31)<<1) >> g.below(62)
	switch g.below(12) {
	case 0:
		return []int{0, 1, -1, api.Most, -api.Most, 99, 100}[g.below(7)]
	case 1, 2, 3:
		return -n
	}
	return n
}

func (g *strewn) amounts(most int) []int {
	var l []int
	for range g.below(most + 1) {
		l = append(l, g.amount())
	}
	return l
}

func (g *strewn) sums() result.Sums {
	return result.Sums{Gross: g.amount(), Pretax: g.amount(), Post: g.amount()}
}

// name is of letters and digits, mostly one of layer 8.
func (g *strewn) name() string {
	if g.below(300) == 0 {
		return g.of(wrongNames()...)
	}
	b := []byte{byte('a' + g.below(26))}
	for range g.below(12) {
		b = append(b, "abcdefghijklmnopqrstuvwxyz0123456789"[g.below(36)])
	}
	return string(b)
}

func (g *strewn) payslip() slip.Slip {
	r := result.Result{Raw: g.sums(), Extra: g.sums(), Taxable: g.amount(), Tax: g.amount(), Taken: g.amount(), Held: g.amount(), Net: g.amount(), Short: g.amount(), Paid: g.amounts(6), Owed: g.amounts(6), Garnished: g.amounts(8)}
	for range g.below(8) {
		r.Lines = append(r.Lines, result.Line{Kind: g.of("earn", "pretax", "post"), Name: g.name(), Amount: g.amount()})
	}
	return slip.Slip{Id: 1 + g.below(mostId)>>g.below(31), Period: first + g.below(last-first+1), R: r}
}

// spoil makes one field, or several, such as is none; it may be right by chance.
func (g *strewn) spoil(s slip.Slip) slip.Slip {
	l := places(&s)
	switch g.below(6) {
	case 0:
		s.Id = []int{0, -s.Id, mostId + s.Id, 1 << 62}[g.below(4)]
	case 1:
		s.Period = []int{first - 1 - g.below(30000), last + 1 + g.below(30000), -s.Period}[g.below(3)]
	case 2:
		s.R.Lines = append(s.R.Lines, result.Line{Kind: g.of("let", "Earn", "", "earn ", "if"), Name: g.name()})
	case 3:
		s.R.Lines = append(s.R.Lines, result.Line{Kind: "post", Name: g.of(wrongNames()...)})
	default:
		for range 1 + g.below(3) {
			*l[g.below(len(l))] = -1 << 63
		}
	}
	return s
}

// P20.1, P20.2: strewn payslips, right ones and such of which something is wrong.
func TestStrewnPayslips(t *testing.T) {
	g := strewn(20)
	var errors [api.ErrShut + 1]int
	for range 20000 {
		s := g.payslip()
		if g.below(4) == 0 {
			s = g.spoil(s)
		}
		errors[hold(t, s)]++
	}
	if errors[api.OK] < 10000 || errors[api.ErrArg] < 4000 {
		t.Errorf("errors %v", errors)
	}
}

// turned is a text with a change in it: of a byte, a word or a line.
func (g *strewn) turned(text string) string {
	sep := g.of("", " ", "\n", ".")
	l := strings.Split(text, sep)
	if len(l) < 2 {
		return text
	}
	i, j := g.below(len(l)), g.below(len(l))
	switch g.below(6) {
	case 0:
		l[i] = ""
	case 1:
		l[i] = l[j]
	case 2:
		l[i], l[j] = l[j], l[i]
	case 3:
		l = append(l[:i:i], l[i+1:]...)
	case 4:
		l[i] += g.of(sep, " ", "\n", "0", "-", ".", "1.00", "9", "x")
	default:
		l[i] = g.of("0", "5", "-", "+", ".", " ", "\n", "line earn a 1.00", "0.00", "-0.01", "let", "post")
	}
	return strings.Join(l, sep)
}

// P20.1, P20.2: texts of strewn payslips with some changes in them; some of these are payslips' again.
func TestStrewnTexts(t *testing.T) {
	g := strewn(201)
	var errors [api.ErrShut + 1]int
	for range 20000 {
		text, _ := slip.Text(g.payslip())
		for range g.below(4) {
			text = g.turned(text)
		}
		errors[holdRead(t, text)]++
	}
	if errors[api.OK] < 5000 || errors[api.ErrForm] < 5000 {
		t.Errorf("errors %v", errors)
	}
}

// P20.1: strewn words and strewn bytes, of which hardly any are a payslip's text; P1: no call panics.
func TestStrewnWords(t *testing.T) {
	g := strewn(202)
	words := strings.Fields(full)
	for range 20000 {
		var b strings.Builder
		for range g.below(40) {
			if g.below(3) == 0 {
				b.WriteByte(byte(g.below(256)))
			} else {
				b.WriteString(g.of(words...) + g.of(" ", "\n", ""))
			}
		}
		holdRead(t, b.String())
	}
}
