package slip_test

import (
	"reflect"
	"slices"
	"strings"
	"testing"

	"paymaster/api"
	"paymaster/slip"
)

// Texts that are no payslip's: by hand, and all that are one step away from such as are.

// isNone checks that there is no payslip of a text.
func isNone(t *testing.T, text string) {
	t.Helper()
	if s, e := slip.Read(text); !reflect.DeepEqual(s, slip.Slip{}) || e != api.ErrForm {
		t.Errorf("Read(%.1000q): %v, %d", text, s, e)
	}
}

// bases are texts of payslips.
func bases(t *testing.T) []string {
	t.Helper()
	text, e := slip.Text(some())
	if e != api.OK {
		t.Fatalf("Text: %d", e)
	}
	return []string{none, full, text}
}

// P20.1: a line that is left out, that stands twice, or in another one's place, and lines that are none.
func TestReadWrongLines(t *testing.T) {
	for _, base := range bases(t) {
		lines := strings.SplitAfter(strings.TrimSuffix(base, "\n"), "\n")
		lines[len(lines)-1] += "\n"
		isLine := func(s string) bool { return strings.HasPrefix(s, "line ") }
		for i, one := range lines {
			out, twice := slices.Delete(slices.Clone(lines), i, i+1), slices.Insert(slices.Clone(lines), i, one)
			if isLine(one) {
				holdRead(t, strings.Join(out, ""))
				holdRead(t, strings.Join(twice, ""))
			} else {
				isNone(t, strings.Join(out, ""))
				isNone(t, strings.Join(twice, ""))
			}
			for j := range i {
				other := slices.Clone(lines)
				other[i], other[j] = other[j], other[i]
				if isLine(one) && isLine(lines[j]) {
					holdRead(t, strings.Join(other, ""))
				} else {
					isNone(t, strings.Join(other, ""))
				}
				moved := slices.Insert(slices.Clone(out), j, one)
				if !isLine(one) || !isLine(lines[j]) {
					isNone(t, strings.Join(moved, ""))
				}
			}
			for _, more := range []string{"\n", " \n", "x\n", "line\n", "line earn pay\n", "line earn pay 1.00 2.00\n", "fix 1.00\n", "slip\n", "slip 1 22800\n", "# line\n", "\x00\n"} {
				isNone(t, strings.Join(slices.Insert(slices.Clone(lines), i, more), ""))
			}
			isNone(t, strings.Join(lines[:i], ""))
			if i > 0 {
				isNone(t, strings.Join(lines[i:], "")+strings.Join(lines[:i], ""))
			}
		}
		isNone(t, base+"line earn pay 1.00\n")
		isNone(t, base+base)
		isNone(t, strings.ReplaceAll(base, "\n", "\r\n"))
		isNone(t, strings.ReplaceAll(base, "\n", "/"))
	}
}

// P20.1: a blank more, or less, wherever one stands, at a line's end and at its beginning; a byte 10 more, less, and none at the end.
func TestReadWrongBlanks(t *testing.T) {
	for _, base := range bases(t) {
		for i, c := range []byte(base) {
			switch c {
			case ' ':
				isNone(t, base[:i]+base[i+1:])
				isNone(t, base[:i]+" "+base[i:])
				isNone(t, base[:i]+"\t"+base[i+1:])
				isNone(t, base[:i]+"\n"+base[i+1:])
			case '\n':
				isNone(t, base[:i]+base[i+1:])
				isNone(t, base[:i]+" "+base[i:])
				isNone(t, base[:i+1]+" "+base[i+1:])
				isNone(t, base[:i]+"\n"+base[i:])
				isNone(t, base[:i]+" "+base[i+1:])
				isNone(t, base[:i]+"\r"+base[i:])
				isNone(t, base[:i])
			}
		}
		isNone(t, "\n"+base)
		isNone(t, " "+base)
		isNone(t, "\ufeff"+base)
	}
}

// P20.1: numbers with noughts ahead, with signs, with other digits and with none.
func TestReadWrongNumbers(t *testing.T) {
	for _, n := range []string{"", "0", "00", "01", "001", "+1", "-1", "-0", "1.00", "1.", "0x1", "1e0", "1_0", "١", "a", "one", "2147483648", "02147483647", "4294967297", "9223372036854775807", "18446744073709551617", strings.Repeat("1", 400)} {
		isNone(t, strings.Replace(none, "slip 1 ", "slip "+n+" ", 1))
	}
	for _, n := range []string{"", "0", "1", "5", "022800", "+22800", "-22800", "22799", "36000", "2023", "228000", "22800.00", "2280o", "4295019276", "18446744073709574416", "22800 1", "22800 0.00"} {
		isNone(t, strings.Replace(none, " 22800", " "+n, 1))
	}
	isNone(t, strings.Replace(none, " 22800", "", 1))
	isNone(t, strings.Replace(none, " 1 22800", "", 1))
}

// P20.1: amounts of each line with noughts ahead, -0.00, +, too few or too many digits, above Most; and more and fewer of them.
func TestReadWrongAmounts(t *testing.T) {
	wrong := []string{"", "0", "-", ".", "00.00", "01.00", "-0.00", "-00.01", "-01.00", "+0.00", "+1.00", "--1.00", "1", "1.0", "1.000", ".00", ".5", "1.", "1,00", "1.0a", "a.00", "1.-1", "-.01", "1e2", "0x1.00", "1.00.00", "1 .00", "1. 00", "1_0.00", "1.00%", "١.00",
		"92233720368547758.08", "-92233720368547758.08", "184467440737095516.17", "184467440737095517.16", "1" + strings.Repeat("0", 400) + ".00", "-9223372036854775808", "nil", "true"}
	few := []string{"line earn pay", "line pretax pay", "line post pay", "raw", "raw 1.00", "raw 1.00 2.00", "extra", "extra 1.00 2.00", "taxable", "tax", "taken", "taken 1.00", "net", "net 1.00"}
	many := []string{"line earn pay 1.00", "raw 1.00 2.00 3.00", "extra 1.00 2.00 3.00", "taxable 1.00", "tax 1.00", "taken 1.00 2.00", "net 1.00 2.00"}
	// with is a text in which that line stands in the place of its own, or, if it has no word of its own, of a list's line.
	with := func(line string) string {
		word, _, _ := strings.Cut(line, " ")
		if word == "line" {
			return strings.Replace(none, "raw", line+"\nraw", 1)
		}
		lines := strings.Split(none, "\n")
		for i, l := range lines {
			if own, _, _ := strings.Cut(l, " "); own == word {
				lines[i] = line
			}
		}
		return strings.Join(lines, "\n")
	}
	for _, line := range few {
		isNone(t, with(line))
		isNone(t, with(line+" "))
	}
	for _, line := range many {
		if e := holdRead(t, with(line)); e != api.OK {
			t.Errorf("Read with %q: %d", line, e)
		}
		isNone(t, with(line+" 4.00"))
		isNone(t, with(line+" 0.00 0.00"))
		isNone(t, with(line+" a"))
	}
	for _, line := range append(many, "paid 1.00", "paid 2.00 1.00", "owed 1.00", "owed 1.00 2.00 3.00", "garnished 1.00", "garnished 2.00 1.00 2.00") {
		for _, n := range wrong {
			isNone(t, with(strings.Replace(line, "1.00", n, 1)))
			isNone(t, with(line[:len(line)-4]+n))
		}
	}
}

// P20.1: words in capital letters, other words, and parts of words.
func TestReadWrongWords(t *testing.T) {
	for _, word := range strings.Fields("slip line earn pretax post raw extra taxable tax paid owed taken garnished net") {
		for _, other := range []string{"", strings.ToUpper(word), strings.ToUpper(word[:1]) + word[1:], word[:len(word)-1], word[1:], word + "s", word + word, word + ":", "x" + word, word + "\x00", "let"} {
			isNone(t, strings.Replace(full, word+" ", other+" ", 1))
		}
	}
	for _, name := range []string{"plan2", "abcdefghijkl"} {
		for _, other := range wrongNames() {
			isNone(t, strings.Replace(full, name, other, 1))
		}
		isNone(t, strings.Replace(full, name, name+" "+name, 1))
		isNone(t, strings.Replace(full, name+" ", "", 1))
	}
	isNone(t, strings.Replace(full, "line earn pay 1.00", "line pay earn 1.00", 1))
	isNone(t, strings.Replace(full, "line earn pay 1.00", "line earn 1.00 pay", 1))
	isNone(t, strings.Replace(full, "line earn pay 1.00", "line let pay 1.00", 1))
}

// P20.1, P20.2: all that is one byte away from a payslip's text, and all its beginnings and ends.
func TestReadOneByteAway(t *testing.T) {
	right := 0
	for _, base := range bases(t) {
		for i := range len(base) + 1 {
			for _, c := range []byte(" \n\t\r\x00\xff-+.,/019aezAZ_#") {
				if holdRead(t, base[:i]+string([]byte{c})+base[i:]) == api.OK {
					right++
				}
				if i < len(base) && holdRead(t, base[:i]+string([]byte{c})+base[i+1:]) == api.OK {
					right++
				}
			}
			if i < len(base) {
				holdRead(t, base[:i]+base[i+1:])
				isNone(t, base[:i])
				if i > 0 {
					isNone(t, base[i:])
				}
			}
		}
	}
	if right < 500 {
		t.Errorf("only %d of the texts were payslips'", right)
	}
}
